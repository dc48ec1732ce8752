import Derived.Test.YtghcololkgeoeaaDoorPartO2
import Derived.Test.YtghcololkgeoeaaDoorPartO3
import Derived.Test.YtghcololkgeoeaaDoorPartN3
import Derived.Test.YtghcololkgeoeaaDoorPartA0
import Derived.Deep.CutBlock
import Derived.Test.YtghcololkgeoeaaDoorPartK9
import Derived.Test.YtghcololkgeoeaaDoorPartL2
import Derived.Deep.QuietTactic
import Derived.BigQuiet
import Derived.Test.YtghcololkgeoeaaDoorPartL9
import Derived.ChangeMaps5
namespace Go.Proofs.YtghcololkgeoeaaDoor
open Go.RowKit
set_option linter.unusedVariables false
set_option linter.unusedSimpArgs false
attribute [local go_sem ↓] Go.wp_at_zero Go.wp_at_succ

theorem EvAt.belowS {w w' : World} {a : Option Addr} {l : List Ev} (h : EvAt w a l) (hb : Below w.heap.size w w') : EvAt w' a l := by
  intro k hk
  obtain ⟨g, ha, hg, c0, c1, c2, c3, c4⟩ := h k hk
  exact ⟨g, ha, Nat.lt_of_lt_of_le hg hb.size, (hb.cell (p := ⟨g, k * 5, none⟩) hg).trans c0, (hb.cell (p := ⟨g, k * 5 + 1, none⟩) hg).trans c1, (hb.cell (p := ⟨g, k * 5 + 2, none⟩) hg).trans c2, (hb.cell (p := ⟨g, k * 5 + 3, none⟩) hg).trans c3, (hb.cell (p := ⟨g, k * 5 + 4, none⟩) hg).trans c4⟩
theorem jd_pair (sl : Int) (l : List PA) (h : l.Pairwise (fun a b => a.E.seq < b.E.seq)) : (jd sl l).2.1.Pairwise (fun a b => a.seq < b.seq) ∧ (jd sl l).2.2.Pairwise (fun a b => a.seq < b.seq) := by
  revert h
  refine snocRec (P := fun l => l.Pairwise (fun a b => a.E.seq < b.E.seq) → (jd sl l).2.1.Pairwise (fun a b => a.seq < b.seq) ∧ (jd sl l).2.2.Pairwise (fun a b => a.seq < b.seq)) (fun _ => ⟨List.Pairwise.nil, List.Pairwise.nil⟩) ?_ l
  intro l a ih h
  rw [List.pairwise_append] at h
  obtain ⟨h1, _, h3⟩ := h
  obtain ⟨i1, i2⟩ := ih h1
  obtain ⟨m1, m2, _⟩ := jd_mem sl l
  have key : ∀ L : List Ev, L.Pairwise (fun a b => a.seq < b.seq) → (∀ e ∈ L, ∃ x ∈ l, x.push = true ∧ x.E = e) → (L ++ [a.E]).Pairwise (fun a b => a.seq < b.seq) := by
    intro L hL hm
    rw [List.pairwise_append]
    refine ⟨hL, by simp, ?_⟩
    intro e he f hf
    simp only [List.mem_singleton] at hf
    subst hf
    obtain ⟨x, hx, _, rfl⟩ := hm e he
    exact h3 x hx a (by simp)
  rw [jd_snoc]
  unfold jstep
  cases a.push with
  | true =>
    simp only [if_true]
    by_cases hc : a.E.ts < (jd sl l).1
    · rw [if_pos hc, if_pos hc]; exact ⟨i1, key _ i2 m2⟩
    · rw [if_neg hc, if_neg hc]; exact ⟨key _ i1 m1, i2⟩
  | false => simp only [Bool.false_eq_true, if_false]; exact ⟨i1, i2⟩
theorem flat_apart {f : Nat → List Ev} : ∀ {n : Nat}, (∀ s, s < n → (f s).Pairwise (fun a b => a.seq < b.seq) ∧ ∀ e ∈ f s, e.src = (s : Int)) → ((List.range n).flatMap f).Pairwise Apart2 := by
  intro n
  induction n with
  | zero => intro _; simp
  | succ n ih =>
    intro h
    rw [List.range_succ, List.flatMap_append, List.pairwise_append]
    simp only [List.flatMap_cons, List.flatMap_nil, List.append_nil]
    refine ⟨ih (fun s hs => h s (by omega)), ?_, ?_⟩
    · refine ((h n (by omega)).1).imp ?_
      intro a b hab e
      omega
    · intro a ha b hb e
      rw [List.mem_flatMap] at ha
      obtain ⟨t, ht, ha⟩ := ha
      rw [List.mem_range] at ht
      have h1 := (h t (by omega)).2 a ha
      have h2 := (h n (by omega)).2 b hb
      omega
theorem kp_apart {c : Cfg} {n : Nat} {A : Nat → List PA} (ha : AOk c n A) (k : Nat → Nat) : (kpAll c.slack n A k).Pairwise Apart2 ∧ (asAll c.slack n A k).Pairwise Apart2 := by
  have hp : ∀ s, s < n → ((A s).take (k s)).Pairwise (fun a b => a.E.seq < b.E.seq) := fun s hs => (ha.up s hs).sublist (List.take_sublist _ _)
  constructor
  · exact flat_apart (f := fun s => (jd c.slack ((A s).take (k s))).2.1) (fun s hs => ⟨(jd_pair _ _ (hp s hs)).1, (jd_src ha k s hs).1⟩)
  · exact flat_apart (f := fun s => (jd c.slack ((A s).take (k s))).2.2) (fun s hs => ⟨(jd_pair _ _ (hp s hs)).2, (jd_src ha k s hs).2.1⟩)
theorem apart_permS {l k : List Ev} (h : l.Perm k) (hk : k.Pairwise Apart2) : l.Pairwise Apart2 := by
  refine (h.pairwise_iff ?_).2 hk
  intro a b hab e
  exact hab ⟨e.1.symm, e.2.symm⟩
/-- what stands in the world once all is made -/
structure Sm (w u : World) (b b' gb cb : Nat) (c : Cfg) (X Y : Eng) (G : LG) : Prop where
  mx : MemX u b X
  my : MemX u b' Y
  ml : MemL u gb G
  cfg : Blk u cb 26 c.vals
  bel : Below w.heap.size w u
theorem Sm.below {w u u' : World} {b b' gb cb : Nat} {c : Cfg} {X Y : Eng} {G : LG} (h : Sm w u b b' gb cb c X Y G) (hb : Below u.heap.size u u') : Sm w u' b b' gb cb c X Y G :=
  ⟨h.mx.below hb, h.my.below hb, h.ml.kept (below_kept hb (fun _ => False)) (fun _ _ e => e), h.cfg.below hb h.cfg.lt, h.bel.trans (hb.mono h.bel.size)⟩
theorem sorted_len {l : List Ev} {n : Nat} (a : Option Addr) (c : Nat) (w : World) (hn : l.length = n) (h : Row w 37 5 a n c (evs l)) (hl : n ≤ 1000) (hp : l.Pairwise Apart2) :
    Calls Tryd.prog 21 #[.slice a n c] w fun e w' => ∃ (S : List Ev) (g : Nat), e = .returned (.slice (some ⟨g, 0, none⟩) n n) ∧ Srt S ∧ Sg w w' g l S := by
  subst hn
  exact sorted_any l a c w h hl hp
theorem same_len {l : List Ev} {n : Nat} (a a' : Option Addr) (c c' : Nat) (w : World) (hn : l.length = n) (h : EvAt w a l) (h' : EvAt w a' l) (hl : n ≤ 1000) :
    Calls Tryd.prog 16 #[.slice a n c, .slice a' n c'] w fun e w' => e = .returned (.bool true) ∧ Below w.heap.size w w' := by
  subst hn
  refine (same_eq l a a' c c' w h h' (by omega)).mono ?_
  rintro e w' ⟨he, m, rfl⟩
  exact ⟨he, ⟨rfl, rfl, rfl, Nat.le_refl _, fun _ _ => rfl⟩⟩
set_option maxRecDepth 100000 in
set_option maxHeartbeats 16000000 in
theorem same_walk (r : RawC) (sa : Option Addr) (sc : Nat) (S : List (List ActR)) (ma : Option Addr) (mc : Nat) (mix : List Int) (oa : Option Addr) (oc : Nat) (oth : List Int) (w : World) (hr : r.ok) (hs : StrAt w sa S) (hl : ∀ l ∈ S, l.length ≤ 1099511627776) (hS : S.length ≤ 9000000000000) (hmx : IntsAt w ma mix) (hml : mix.length ≤ 90000000000000) (hox : IntsAt w oa oth) (hol : oth.length ≤ 90000000000000) (htab : ∀ u, Below w.heap.size w u → tab10 u) :
    Calls Tryd.prog 5 #[.agg #[.int .i64 r.sources, .int .i64 r.slack, .int .i64 r.policy, .int .i64 r.room, .int .i64 r.idle, .int .i64 r.pattern], .slice sa S.length sc, .slice ma mix.length mc, .slice oa oth.length oc] w fun e w' => e = .returned (.bool true) ∧ Below w.heap.size w w' := by
  have hpr := pk_range (c := r.policy) (n := 2) (by omega)
  obtain ⟨pol, HPol⟩ := hex (pk r.policy 2)
  obtain ⟨c0, HC0⟩ := hex r.cfg
  obtain ⟨c, HC⟩ := hex ({ c0 with policy := pol } : Cfg)
  have HOK : Hid c.ok := by
    have h := r.cfg_ok
    rw [← HC0.out] at h
    obtain ⟨h1, h2⟩ := h
    unfold Cfg.fits at h1
    show c.ok
    rw [HC.out]
    refine ⟨?_, h2⟩
    unfold Cfg.fits
    simp only
    rw [HPol.out]
    omega
  have hpol : c.policy ≤ 1 ∧ 0 ≤ c.policy := by rw [HC.out]; show pol ≤ 1 ∧ 0 ≤ pol; rw [HPol.out]; omega
  have HCv : Hid (c.sources = c0.sources ∧ c.slack = c0.slack ∧ c.policy = pol ∧ c.room = c0.room ∧ c.idle = c0.idle ∧ c.pat = c0.pat) := by show _ ∧ _; rw [HC.out]; exact ⟨rfl, rfl, rfl, rfl, rfl, rfl⟩
  have HPs : Hid (c.ps.length ≤ 3) := by show _ ≤ _; rw [HC.out, HC0.out]; exact cfg_ps3 r
  obtain ⟨n, hn⟩ : ∃ n : Nat, c.sources = n := ⟨c.sources.toNat, by have := HOK.out.1.1; omega⟩
  have hn6 : 1 ≤ n ∧ n ≤ 6 := by have := HOK.out.1.1; have := HOK.out.1.2.1; omega
  have hroom : 1 ≤ c.room ∧ c.room ≤ 32 := by have h := HOK.out.1; unfold Cfg.fits at h; omega
  have hsl : 0 ≤ c.slack := by have h := HOK.out.1; unfold Cfg.fits at h; omega
  have HAok : Hid (AOk c n (fun s => (planL c.room S n)[s]?.getD [])) := plan_aok hn6.2 hroom hsl (by omega) hl
  have hcf : ∀ u, Below w.heap.size w u → Calls Tryd.prog 10 #[.agg #[.int .i64 r.sources, .int .i64 r.slack, .int .i64 r.policy, .int .i64 r.room, .int .i64 r.idle, .int .i64 r.pattern]] u fun e w' => e = .returned (.agg #[.int .i64 c0.sources, .int .i64 c0.slack, .int .i64 c0.policy, .int .i64 c0.room, .int .i64 c0.idle, .string c0.pat]) ∧ Below u.heap.size u w' := fun u hu => by rw [HC0.out]; exact config_any r u hr (fun v hv => htab v (hu.trans (hv.mono hu.size)))
  have HMi : Hid (∀ u (la : Option Addr) (lc : Nat) (l : List Int), Below w.heap.size w u → IntsAt w la l → l.length ≤ 90000000000000 → Calls Tryd.prog 24 #[.agg #[.int .i64 c.sources, .int .i64 c.slack, .int .i64 c.policy, .int .i64 c.room, .int .i64 c.idle, .string c.pat], .slice sa S.length sc, .slice la l.length lc] u fun e w' => ∃ b, e = .returned (.tuple #[.pointer (some ⟨b, 0, none⟩), .bool true]) ∧ ∃ X, MixEnd c n (fun s => (planL c.room S n)[s]?.getD []) X ∧ MemX w' b X ∧ (∀ k, some k ∈ X.fp b → u.heap.size ≤ k) ∧ Below u.heap.size u w') := fun u la lc l hu hla hll => mixed_any c n sa sc S la lc l u hn HOK.out hpol.1 (hs.below hu) hl hS (hla.below hu) hll
  have HJu : Hid (∀ u, Below w.heap.size w u → Calls Tryd.prog 25 #[.agg #[.int .i64 c.sources, .int .i64 c.slack, .int .i64 c.policy, .int .i64 c.room, .int .i64 c.idle, .string c.pat], .slice sa S.length sc] u fun e w' => ∃ gb, e = .returned (.pointer (some ⟨gb, 0, none⟩)) ∧ ∃ G, MemL w' gb G ∧ (∀ k, some k ∈ G.fp gb → u.heap.size ≤ k) ∧ Below u.heap.size u w' ∧ G.all = kpAll c.slack n (fun s => (planL c.room S n)[s]?.getD []) (fun s => ((fun s => (planL c.room S n)[s]?.getD []) s).length) ∧ G.aside = asAll c.slack n (fun s => (planL c.room S n)[s]?.getD []) (fun s => ((fun s => (planL c.room S n)[s]?.getD []) s).length)) := fun u hu => judged_any c n sa sc S u hn HOK.out hpol.1 (hs.below hu) hl hS
  have HFl : Hid (∀ u, Calls Tryd.prog 18 #[.agg #[.int .i64 c.sources, .int .i64 c.slack, .int .i64 c.policy, .int .i64 c.room, .int .i64 c.idle, .string c.pat]] u fun e w' => e = .returned (.bool true) ∧ Below u.heap.size u w') := fun u => flows_true n c u hn HOK.out
  have hpk : ∀ u, Calls Tryd.prog 23 #[.int .i64 r.policy, .int .i64 2] u fun e w' => e = .returned (.int .i64 pol) ∧ u = w' := fun u => by rw [HPol.out]; exact pick_any _ _ u hr.2.2.1 (by omega) (by omega)
  have HMx : Hid (IntsAt w ma mix ∧ IntsAt w oa oth) := ⟨hmx, hox⟩
  have HNn : Hid (c.sources = n) := hn
  clear hr hs hl hmx hox htab hn hpr HC HC0 HPol
  obtain ⟨w0, HW0⟩ := hex (w.alloc (.cells r.vals.toArray 23))
  obtain ⟨rb, HRb⟩ := hex w.heap.size
  have HR0 : Hid (Blk w0 rb 23 r.vals ∧ Below w.heap.size w w0) := by show _ ∧ _; rw [HW0.out, HRb.out]; exact ⟨blk_alloc _ _ _, (Below.refl _ _).alloc (Nat.le_refl _) _⟩
  have hw0 : w.alloc (.cells #[.int .i64 r.sources, .int .i64 r.slack, .int .i64 r.policy, .int .i64 r.room, .int .i64 r.idle, .int .i64 r.pattern] 23) = w0 := HW0.out.symm
  go_enter Tryd.func5, Tryd.ntmps5
  go_upto_region 1 with fail
  rw [← HRb.out]
  clear hw0 HW0 HRb
  have r0 := HR0.out.1.cell 0
  have r1 := HR0.out.1.cell 1
  have r2 := HR0.out.1.cell 2
  have r3 := HR0.out.1.cell 3
  have r4 := HR0.out.1.cell 4
  have r5 := HR0.out.1.cell 5
  simp only [RawC.vals, List.getElem?_cons_zero, List.getElem?_cons_succ] at r0 r1 r2 r3 r4 r5
  go_upto_region 2 with (go_at_call 10; refine (hcf _ HR0.out.2).mono ?_; rintro e w1 ⟨rfl, hb1⟩)
  have HB1 : Hid (Below w.heap.size w w1 ∧ Blk w1 rb 23 r.vals) := ⟨HR0.out.2.trans (hb1.mono HR0.out.2.size), HR0.out.1.below hb1 HR0.out.1.lt⟩
  clear hcf hb1 r0 r1 r2 r3 r4 r5 HR0
  obtain ⟨w2, HW2⟩ := hex (w1.alloc (.cells c0.vals.toArray 26))
  have hw2 : w1.alloc (.cells #[.int .i64 c0.sources, .int .i64 c0.slack, .int .i64 c0.policy, .int .i64 c0.room, .int .i64 c0.idle, .string c0.pat] 26) = w2 := HW2.out.symm
  rw [hw2]
  obtain ⟨cb, HCb⟩ := hex w1.heap.size
  have HC2 : Hid (Blk w2 cb 26 c0.vals ∧ Blk w2 rb 23 r.vals ∧ Below w.heap.size w w2 ∧ w.heap.size ≤ cb) := by show _ ∧ _ ∧ _ ∧ _; rw [HW2.out, HCb.out]; exact ⟨blk_alloc _ _ _, HB1.out.2.alloc _, HB1.out.1.alloc HB1.out.1.size _, HB1.out.1.size⟩
  rw [← HCb.out]
  clear hw2 HW2 HCb HB1
  have r2 := HC2.out.2.1.cell 2
  have q2 := HC2.out.1.cell 2
  have q2f := HC2.out.1.frozen 2
  simp only [RawC.vals, Cfg.vals, List.getElem?_cons_zero, List.getElem?_cons_succ] at r2 q2
  go_upto_region 3 with (go_at_call 23; refine (hpk _).mono ?_; rintro e w' ⟨rfl, rfl⟩)
  obtain ⟨w3, HW3⟩ := hex (w2.setCell ⟨cb, 2, none⟩ (.int .i64 pol))
  have HC3 : Hid (Blk w3 cb 26 c.vals ∧ Below w.heap.size w w3) := by
    show _ ∧ _
    rw [HW3.out]
    refine ⟨?_, HC2.out.2.2.1.setCell (p := ⟨cb, 2, none⟩) HC2.out.2.2.2 _⟩
    have h := HC2.out.1.set 2 (.int .i64 pol)
    obtain ⟨e1, e2, e3, e4, e5, e6⟩ := HCv.out
    have e : c.vals = c0.vals.set 2 (.int .i64 pol) := by unfold Cfg.vals; rw [e1, e2, e3, e4, e5, e6]; rfl
    rw [e]; exact h
  rw [← HW3.out]
  clear HW3 HC2 r2 q2 q2f hpk HCv
  have k0 := (HC3.out.1).cell 0
  have k1 := (HC3.out.1).cell 1
  have k2 := (HC3.out.1).cell 2
  have k3 := (HC3.out.1).cell 3
  have k4 := (HC3.out.1).cell 4
  have k5 := (HC3.out.1).cell 5
  simp only [Cfg.vals, List.getElem?_cons_zero, List.getElem?_cons_succ] at k0 k1 k2 k3 k4 k5
  go_upto_region 4 with (go_at_call 24; refine (HMi.out _ ma mc mix HC3.out.2 HMx.out.1 hml).mono ?_; rintro e w4 ⟨b, rfl, X, hme, hmx, hfx, hb4⟩)
  have HX4 : Hid (MixEnd c n (fun s => (planL c.room S n)[s]?.getD []) X ∧ MemX w4 b X ∧ Blk w4 cb 26 c.vals ∧ Below w.heap.size w w4) := ⟨hme, hmx, HC3.out.1.below hb4 HC3.out.1.lt, HC3.out.2.trans (hb4.mono HC3.out.2.size)⟩
  clear hme hmx hfx hb4 HC3 k0 k1 k2 k3 k4 k5
  have k0 := (HX4.out.2.2.1).cell 0
  have k1 := (HX4.out.2.2.1).cell 1
  have k2 := (HX4.out.2.2.1).cell 2
  have k3 := (HX4.out.2.2.1).cell 3
  have k4 := (HX4.out.2.2.1).cell 4
  have k5 := (HX4.out.2.2.1).cell 5
  simp only [Cfg.vals, List.getElem?_cons_zero, List.getElem?_cons_succ] at k0 k1 k2 k3 k4 k5
  go_upto_region 5 with (go_at_call 24; refine (HMi.out _ oa oc oth HX4.out.2.2.2 HMx.out.2 hol).mono ?_; rintro e w5 ⟨b', rfl, Y, hme, hmx, hfx, hb5⟩)
  have HX5 : Hid (MixEnd c n (fun s => (planL c.room S n)[s]?.getD []) X ∧ MixEnd c n (fun s => (planL c.room S n)[s]?.getD []) Y) := ⟨HX4.out.1, hme⟩
  have HY5 : Hid (MemX w5 b X ∧ MemX w5 b' Y ∧ Blk w5 cb 26 c.vals ∧ Below w.heap.size w w5) := ⟨HX4.out.2.1.below hb5, hmx, HX4.out.2.2.1.below hb5 HX4.out.2.2.1.lt, HX4.out.2.2.2.trans (hb5.mono HX4.out.2.2.2.size)⟩
  clear hme hmx hfx hb5 HX4 HMi HMx k0 k1 k2 k3 k4 k5
  go_upto_region 7 with fail
  have k0 := (HY5.out.2.2.1).cell 0
  have k1 := (HY5.out.2.2.1).cell 1
  have k2 := (HY5.out.2.2.1).cell 2
  have k3 := (HY5.out.2.2.1).cell 3
  have k4 := (HY5.out.2.2.1).cell 4
  have k5 := (HY5.out.2.2.1).cell 5
  simp only [Cfg.vals, List.getElem?_cons_zero, List.getElem?_cons_succ] at k0 k1 k2 k3 k4 k5
  go_upto_region 8 with (go_at_call 25; refine (HJu.out _ HY5.out.2.2.2).mono ?_; rintro e w6 ⟨gb, rfl, G, hml6, hfg, hb6, hga, hgs⟩)
  have H6 : Hid (Sm w w6 b b' gb cb c X Y G) := ⟨HY5.out.1.below hb6, HY5.out.2.1.below hb6, hml6, HY5.out.2.2.1.below hb6 HY5.out.2.2.1.lt, HY5.out.2.2.2.trans (hb6.mono HY5.out.2.2.2.size)⟩
  have HGa : Hid (G.all = kpAll c.slack n (fun s => (planL c.room S n)[s]?.getD []) (fun s => ((fun s => (planL c.room S n)[s]?.getD []) s).length) ∧ G.aside = asAll c.slack n (fun s => (planL c.room S n)[s]?.getD []) (fun s => ((fun s => (planL c.room S n)[s]?.getD []) s).length)) := ⟨hga, hgs⟩
  have HLn : Hid (G.all.length ≤ 192 ∧ G.aside.length ≤ 192 ∧ G.all.Pairwise Apart2 ∧ G.aside.Pairwise Apart2) := by
    show _ ∧ _ ∧ _ ∧ _
    rw [HGa.out.1, HGa.out.2]
    exact ⟨(kp_len HAok.out _).1, (kp_len HAok.out _).2, (kp_apart HAok.out _).1, (kp_apart HAok.out _).2⟩
  clear hml6 hfg hb6 hga hgs HJu HY5 k0 k1 k2 k3 k4 k5
  have g0 := H6.out.ml.blk.cell 0
  simp only [List.getElem?_cons_zero] at g0
  have hso := sorted_any G.all G.aa G.ac w6 H6.out.ml.ra (by have := HLn.out.1; omega) HLn.out.2.2.1
  obtain ⟨nA, HNA⟩ := hex G.all.length
  rw [← HNA.out] at hso g0
  go_upto_region 9 with (go_at_call 21; refine hso.mono ?_; rintro e w7 ⟨S1, g1, rfl, hsrt, hsg⟩)
  have H7 : Hid (Sm w w7 b b' gb cb c X Y G) := H6.out.below hsg.bel
  have HXL : Hid (X.log = S1 ∧ Y.log = S1 ∧ S1.length = nA) := by
    have hp : S1.Perm (kpAll c.slack n (fun s => (planL c.room S n)[s]?.getD []) (fun s => ((fun s => (planL c.room S n)[s]?.getD []) s).length)) := by rw [← HGa.out.1]; exact hsg.perm
    refine ⟨srt_unique (HX5.out.1.log.trans hp.symm) HX5.out.1.srt hsrt, srt_unique (HX5.out.2.log.trans hp.symm) HX5.out.2.srt hsrt, ?_⟩
    rw [HNA.out]; exact hsg.perm.length_eq
  have HW1 : Hid (EvAt w7 (some ⟨g1, 0, none⟩) S1) := by
    have hr := hsg.row
    rw [← hsg.perm.length_eq] at hr
    exact EvAt.of_row (n := 0) hr
  have hnA : nA ≤ 192 := by rw [HNA.out]; exact HLn.out.1
  clear hso hsrt hsg g0 H6
  have HLog : Hid (∀ u q, Sm w u b b' gb cb c X Y G → (q = b ∨ q = b') → Calls Tryd.prog 15 #[.pointer (some ⟨q, 0, none⟩)] u fun e w' => ∃ a c2, e = .returned (.slice a nA c2) ∧ EvAt w' a S1 ∧ Below u.heap.size u w') := by
    intro u q hu hq
    rcases hq with rfl | rfl
    · refine (xlog_any q X u hu.mx HX5.out.1.sane.log).mono ?_
      rintro e w' ⟨a, c2, he, hown, hb⟩
      rw [HXL.out.1] at he hown
      exact ⟨a, c2, by rw [he, HXL.out.2.2], EvAt.of_owns hown, hb⟩
    · refine (xlog_any q Y u hu.my HX5.out.2.sane.log).mono ?_
      rintro e w' ⟨a, c2, he, hown, hb⟩
      rw [HXL.out.2.1] at he hown
      exact ⟨a, c2, by rw [he, HXL.out.2.2], EvAt.of_owns hown, hb⟩
  have HMt : Hid (∀ u, Sm w u b b' gb cb c X Y G → Calls Tryd.prog 26 #[.pointer (some ⟨b, 0, none⟩), .pointer (some ⟨b', 0, none⟩)] u fun e w' => e = .returned (.bool true) ∧ Sm w w' b b' gb cb c X Y G) := by
    intro u hu
    have hcc : Y.c = X.c := HX5.out.2.cc.trans HX5.out.1.cc.symm
    refine (matches_true b b' X Y u hu.mx hu.my (by rw [HX5.out.1.cc]; exact HPs.out) HX5.out.1.sane.log HX5.out.1.ts (by rw [hcc]) (HXL.out.2.1.trans HXL.out.1.symm)).mono ?_
    rintro e w' ⟨he, hb⟩
    exact ⟨he, hu.below hb⟩
  by_cases hp1 : c.policy = 1
  · have k2 := H7.out.cfg.cell 2
    have g1' := H7.out.ml.blk.cell 1
    simp only [Cfg.vals, List.getElem?_cons_zero, List.getElem?_cons_succ] at k2 g1'
    have HP1 : Hid (c.policy = 1) := hp1
    rw [hp1] at k2
    have hso := sorted_any G.aside G.da G.dc w7 H7.out.ml.rd (by have := HLn.out.2.1; omega) HLn.out.2.2.2
    obtain ⟨nD, HND⟩ := hex G.aside.length
    rw [← HND.out] at hso g1'
    clear hp1
    go_upto_region 12 with (go_at_call 21; refine hso.mono ?_; rintro e w8 ⟨S2, g2, rfl, hsrt, hsg⟩)
    have HNa : Hid (S2.length = nD) := by show _ = _; rw [HND.out]; exact hsg.perm.length_eq
    have HNb : Hid (nD ≤ 192) := by show _ ≤ _; rw [HND.out]; exact HLn.out.2.1
    have HAp : Hid (S2.Pairwise Apart2) := apart_permS hsg.perm HLn.out.2.2.2
    have HSa : Hid (Srt S2) := hsrt
    have HLp : Hid (∀ Z, MixEnd c n (fun s => (planL c.room S n)[s]?.getD []) Z → Z.late.Perm S2) := fun Z hZ => by
      have h := hZ.late
      rw [if_pos HP1.out, ← HGa.out.2] at h
      exact h.trans hsg.perm.symm
    have HT8 : Hid (Sm w w8 b b' gb cb c X Y G ∧ EvAt w8 (some ⟨g1, 0, none⟩) S1 ∧ EvAt w8 (some ⟨g2, 0, none⟩) S2) := by
      have hr := hsg.row
      rw [← hsg.perm.length_eq] at hr
      exact ⟨H7.out.below hsg.bel, HW1.out.belowS hsg.bel, EvAt.of_row (n := 0) hr⟩
    clear hso hsrt hsg k2 g1' H7 HW1
    have HSl : Hid (∀ (u : World) (a : Option Addr) (c2 : Nat), EvAt u a S1 → EvAt u (some ⟨g1, 0, none⟩) S1 → Calls Tryd.prog 16 #[.slice a nA c2, .slice (some ⟨g1, 0, none⟩) nA nA] u fun e w' => e = .returned (.bool true) ∧ Below u.heap.size u w') := fun u a c2 h1 h2 => same_len a _ c2 nA u HXL.out.2.2 h1 h2 (by omega)
    have HLt : Hid (∀ u q, (Sm w u b b' gb cb c X Y G ∧ EvAt u (some ⟨g1, 0, none⟩) S1 ∧ EvAt u (some ⟨g2, 0, none⟩) S2) → (q = b ∨ q = b') → Calls Tryd.prog 22 #[.pointer (some ⟨q, 0, none⟩)] u fun e w' => ∃ a c2 l, e = .returned (.slice a nD c2) ∧ Row w' 37 5 a nD c2 (evs l) ∧ l.Perm S2 ∧ (Sm w w' b b' gb cb c X Y G ∧ EvAt w' (some ⟨g1, 0, none⟩) S1 ∧ EvAt w' (some ⟨g2, 0, none⟩) S2)) := by
      intro u q ⟨hu, h1, h2⟩ hq
      have hlen : ∀ Z, MixEnd c n (fun s => (planL c.room S n)[s]?.getD []) Z → Z.late.Perm S2 := HLp.out
      rcases hq with rfl | rfl
      · refine (xlate_any q X u hu.mx HX5.out.1.sane.late).mono ?_
        rintro e w' ⟨a, c2, he, hown, hb⟩
        have hp := hlen X HX5.out.1
        rw [hp.length_eq, HNa.out] at he hown
        exact ⟨a, c2, X.late, he, row_of_owns hown, hp, hu.below hb, h1.belowS hb, h2.belowS hb⟩
      · refine (xlate_any q Y u hu.my HX5.out.2.sane.late).mono ?_
        rintro e w' ⟨a, c2, he, hown, hb⟩
        have hp := hlen Y HX5.out.2
        rw [hp.length_eq, HNa.out] at he hown
        exact ⟨a, c2, Y.late, he, row_of_owns hown, hp, hu.below hb, h1.belowS hb, h2.belowS hb⟩
    have HSo : Hid (∀ u (a : Option Addr) (c2 : Nat) (l : List Ev), Row u 37 5 a nD c2 (evs l) → l.Perm S2 → (Sm w u b b' gb cb c X Y G ∧ EvAt u (some ⟨g1, 0, none⟩) S1 ∧ EvAt u (some ⟨g2, 0, none⟩) S2) → Calls Tryd.prog 21 #[.slice a nD c2] u fun e w' => ∃ gx, e = .returned (.slice (some ⟨gx, 0, none⟩) nD nD) ∧ EvAt w' (some ⟨gx, 0, none⟩) S2 ∧ (Sm w w' b b' gb cb c X Y G ∧ EvAt w' (some ⟨g1, 0, none⟩) S1 ∧ EvAt w' (some ⟨g2, 0, none⟩) S2)) := by
      intro u a c2 l hr hp ⟨hu, h1, h2⟩
      have hl : l.length = nD := by rw [hp.length_eq, HNa.out]
      refine (sorted_len a c2 u hl hr (by have := HNb.out; omega) (apart_permS hp HAp.out)).mono ?_
      rintro e w' ⟨S9, g9, he, hs9, hsg⟩
      have hS9 : S9 = S2 := srt_unique (hsg.perm.trans hp) hs9 HSa.out
      have hrr := hsg.row
      rw [← hsg.perm.length_eq] at hrr
      rw [hS9] at hrr
      exact ⟨g9, he, EvAt.of_row (n := 0) hrr, hu.below hsg.bel, h1.belowS hsg.bel, h2.belowS hsg.bel⟩
    have HSs : Hid (∀ u (gx : Nat), EvAt u (some ⟨gx, 0, none⟩) S2 → EvAt u (some ⟨g2, 0, none⟩) S2 → Calls Tryd.prog 16 #[.slice (some ⟨gx, 0, none⟩) nD nD, .slice (some ⟨g2, 0, none⟩) nD nD] u fun e w' => e = .returned (.bool true) ∧ Below u.heap.size u w') := fun u gx h1 h2 => same_len _ _ nD nD u HNa.out h1 h2 (by have := HNb.out; omega)
    go_upto_region 13 with (first | (go_at_call 15; refine (HLog.out _ b HT8.out.1 (by simp)).mono ?_; rintro e w9a ⟨a0, d0, rfl, ev0, bb0⟩; have sm0 := HT8.out.1.below bb0; have ew0 := HT8.out.2.1.belowS bb0; have es0 := HT8.out.2.2.belowS bb0) | (go_at_call 16; refine (HSl.out _ a0 d0 ev0 ew0).mono ?_; rintro e w9 ⟨rfl, hb0⟩))
    have HT9 : Hid (Sm w w9 b b' gb cb c X Y G ∧ EvAt w9 (some ⟨g1, 0, none⟩) S1 ∧ EvAt w9 (some ⟨g2, 0, none⟩) S2) := ⟨sm0.below hb0, ew0.belowS hb0, es0.belowS hb0⟩
    clear ev0 ew0 sm0 es0 hb0 bb0
    go_upto_region 14 with (first | (go_at_call 15; refine (HLog.out _ b' HT9.out.1 (by simp)).mono ?_; rintro e w10a ⟨a1, d1, rfl, ev1, bb1⟩; have sm1 := HT9.out.1.below bb1; have ew1 := HT9.out.2.1.belowS bb1; have es1 := HT9.out.2.2.belowS bb1) | (go_at_call 16; refine (HSl.out _ a1 d1 ev1 ew1).mono ?_; rintro e w10 ⟨rfl, hb1⟩))
    have HT10 : Hid (Sm w w10 b b' gb cb c X Y G ∧ EvAt w10 (some ⟨g1, 0, none⟩) S1 ∧ EvAt w10 (some ⟨g2, 0, none⟩) S2) := ⟨sm1.below hb1, ew1.belowS hb1, es1.belowS hb1⟩
    clear ev1 ew1 sm1 es1 hb1 bb1
    go_upto_region 15 with (first | (go_at_call 22; refine (HLt.out _ b HT10.out (by simp)).mono ?_; rintro e w11a ⟨a2, d2, l2, rfl, rw2, pm2, sm2⟩) | (go_at_call 21; refine (HSo.out _ a2 d2 l2 rw2 pm2 sm2).mono ?_; rintro e w11b ⟨gz2, rfl, eg2, sn2⟩) | (go_at_call 16; refine (HSs.out _ gz2 eg2 sn2.2.2).mono ?_; rintro e w11 ⟨rfl, hb2⟩))
    have HT11 : Hid (Sm w w11 b b' gb cb c X Y G ∧ EvAt w11 (some ⟨g1, 0, none⟩) S1 ∧ EvAt w11 (some ⟨g2, 0, none⟩) S2) := ⟨sn2.1.below hb2, sn2.2.1.belowS hb2, sn2.2.2.belowS hb2⟩
    clear rw2 pm2 sm2 eg2 sn2 hb2
    go_upto_region 16 with (first | (go_at_call 22; refine (HLt.out _ b' HT11.out (by simp)).mono ?_; rintro e w12a ⟨a3, d3, l3, rfl, rw3, pm3, sm3⟩) | (go_at_call 21; refine (HSo.out _ a3 d3 l3 rw3 pm3 sm3).mono ?_; rintro e w12b ⟨gz3, rfl, eg3, sn3⟩) | (go_at_call 16; refine (HSs.out _ gz3 eg3 sn3.2.2).mono ?_; rintro e w12 ⟨rfl, hb3⟩))
    have HT12 : Hid (Sm w w12 b b' gb cb c X Y G ∧ EvAt w12 (some ⟨g1, 0, none⟩) S1 ∧ EvAt w12 (some ⟨g2, 0, none⟩) S2) := ⟨sn3.1.below hb3, sn3.2.1.belowS hb3, sn3.2.2.belowS hb3⟩
    clear rw3 pm3 sm3 eg3 sn3 hb3
    go_upto_region 17 with (go_at_call 26; refine (HMt.out _ HT12.out.1).mono ?_; rintro e w13 ⟨rfl, sm13⟩)
    have HT13 : Hid (Sm w w13 b b' gb cb c X Y G) := sm13
    clear sm13
    have k0 := (HT13.out.cfg).cell 0
    have k1 := (HT13.out.cfg).cell 1
    have k2 := (HT13.out.cfg).cell 2
    have k3 := (HT13.out.cfg).cell 3
    have k4 := (HT13.out.cfg).cell 4
    have k5 := (HT13.out.cfg).cell 5
    simp only [Cfg.vals, List.getElem?_cons_zero, List.getElem?_cons_succ] at k0 k1 k2 k3 k4 k5
    go_wp2_with (go_at_call 18; refine (HFl.out _).mono ?_; rintro e w14 ⟨rfl, hb14⟩)
    go_ret
    exact ⟨rfl, HT13.out.bel.trans (hb14.mono HT13.out.bel.size)⟩
  · have k2 := H7.out.cfg.cell 2
    simp only [Cfg.vals, List.getElem?_cons_zero, List.getElem?_cons_succ] at k2
    have hpb : (c.policy == 1) = false := by rw [beq_eq_false_iff_ne]; exact hp1
    have HP1 : Hid (¬ c.policy = 1) := hp1
    clear hp1
    go_upto_region 12 with fail
    obtain ⟨w8, HW8⟩ := hex w7
    rw [← HW8.out] at H7 HW1
    rw [← HW8.out]
    clear HW8 k2 hpb
    have HNa : Hid (([] : List Ev).length = 0) := rfl
    have HNb : Hid ((0 : Nat) ≤ 192) := by show _ ≤ _; omega
    have HAp : Hid (([] : List Ev).Pairwise Apart2) := List.Pairwise.nil
    have HSa : Hid (Srt ([] : List Ev)) := List.Pairwise.nil
    have HLp : Hid (∀ Z, MixEnd c n (fun s => (planL c.room S n)[s]?.getD []) Z → Z.late.Perm ([] : List Ev)) := fun Z hZ => by
      have h := hZ.late
      rw [if_neg HP1.out] at h
      exact h
    have HT8 : Hid (Sm w w8 b b' gb cb c X Y G ∧ EvAt w8 (some ⟨g1, 0, none⟩) S1 ∧ EvAt w8 none ([] : List Ev)) := ⟨H7.out, HW1.out, fun k hk => by simp at hk⟩
    clear H7 HW1
    have HSl : Hid (∀ (u : World) (a : Option Addr) (c2 : Nat), EvAt u a S1 → EvAt u (some ⟨g1, 0, none⟩) S1 → Calls Tryd.prog 16 #[.slice a nA c2, .slice (some ⟨g1, 0, none⟩) nA nA] u fun e w' => e = .returned (.bool true) ∧ Below u.heap.size u w') := fun u a c2 h1 h2 => same_len a _ c2 nA u HXL.out.2.2 h1 h2 (by omega)
    have HLt : Hid (∀ u q, (Sm w u b b' gb cb c X Y G ∧ EvAt u (some ⟨g1, 0, none⟩) S1 ∧ EvAt u none ([] : List Ev)) → (q = b ∨ q = b') → Calls Tryd.prog 22 #[.pointer (some ⟨q, 0, none⟩)] u fun e w' => ∃ a c2 l, e = .returned (.slice a 0 c2) ∧ Row w' 37 5 a 0 c2 (evs l) ∧ l.Perm ([] : List Ev) ∧ (Sm w w' b b' gb cb c X Y G ∧ EvAt w' (some ⟨g1, 0, none⟩) S1 ∧ EvAt w' none ([] : List Ev))) := by
      intro u q ⟨hu, h1, h2⟩ hq
      have hlen : ∀ Z, MixEnd c n (fun s => (planL c.room S n)[s]?.getD []) Z → Z.late.Perm ([] : List Ev) := HLp.out
      rcases hq with rfl | rfl
      · refine (xlate_any q X u hu.mx HX5.out.1.sane.late).mono ?_
        rintro e w' ⟨a, c2, he, hown, hb⟩
        have hp := hlen X HX5.out.1
        rw [hp.length_eq, HNa.out] at he hown
        exact ⟨a, c2, X.late, he, row_of_owns hown, hp, hu.below hb, h1.belowS hb, h2.belowS hb⟩
      · refine (xlate_any q Y u hu.my HX5.out.2.sane.late).mono ?_
        rintro e w' ⟨a, c2, he, hown, hb⟩
        have hp := hlen Y HX5.out.2
        rw [hp.length_eq, HNa.out] at he hown
        exact ⟨a, c2, Y.late, he, row_of_owns hown, hp, hu.below hb, h1.belowS hb, h2.belowS hb⟩
    have HSo : Hid (∀ u (a : Option Addr) (c2 : Nat) (l : List Ev), Row u 37 5 a 0 c2 (evs l) → l.Perm ([] : List Ev) → (Sm w u b b' gb cb c X Y G ∧ EvAt u (some ⟨g1, 0, none⟩) S1 ∧ EvAt u none ([] : List Ev)) → Calls Tryd.prog 21 #[.slice a 0 c2] u fun e w' => ∃ gx, e = .returned (.slice (some ⟨gx, 0, none⟩) 0 0) ∧ EvAt w' (some ⟨gx, 0, none⟩) ([] : List Ev) ∧ (Sm w w' b b' gb cb c X Y G ∧ EvAt w' (some ⟨g1, 0, none⟩) S1 ∧ EvAt w' none ([] : List Ev))) := by
      intro u a c2 l hr hp ⟨hu, h1, h2⟩
      have hl : l.length = 0 := by rw [hp.length_eq, HNa.out]
      refine (sorted_len a c2 u hl hr (by have := HNb.out; omega) (apart_permS hp HAp.out)).mono ?_
      rintro e w' ⟨S9, g9, he, hs9, hsg⟩
      have hS9 : S9 = ([] : List Ev) := srt_unique (hsg.perm.trans hp) hs9 HSa.out
      have hrr := hsg.row
      rw [← hsg.perm.length_eq] at hrr
      rw [hS9] at hrr
      exact ⟨g9, he, EvAt.of_row (n := 0) hrr, hu.below hsg.bel, h1.belowS hsg.bel, h2.belowS hsg.bel⟩
    have HSs : Hid (∀ u (gx : Nat), EvAt u (some ⟨gx, 0, none⟩) ([] : List Ev) → EvAt u none ([] : List Ev) → Calls Tryd.prog 16 #[.slice (some ⟨gx, 0, none⟩) 0 0, .slice none 0 0] u fun e w' => e = .returned (.bool true) ∧ Below u.heap.size u w') := fun u gx h1 h2 => same_len _ _ 0 0 u HNa.out h1 h2 (by have := HNb.out; omega)
    go_upto_region 13 with (first | (go_at_call 15; refine (HLog.out _ b HT8.out.1 (by simp)).mono ?_; rintro e w9a ⟨a0, d0, rfl, ev0, bb0⟩; have sm0 := HT8.out.1.below bb0; have ew0 := HT8.out.2.1.belowS bb0; have es0 := HT8.out.2.2.belowS bb0) | (go_at_call 16; refine (HSl.out _ a0 d0 ev0 ew0).mono ?_; rintro e w9 ⟨rfl, hb0⟩))
    have HT9 : Hid (Sm w w9 b b' gb cb c X Y G ∧ EvAt w9 (some ⟨g1, 0, none⟩) S1 ∧ EvAt w9 none ([] : List Ev)) := ⟨sm0.below hb0, ew0.belowS hb0, es0.belowS hb0⟩
    clear ev0 ew0 sm0 es0 hb0 bb0
    go_upto_region 14 with (first | (go_at_call 15; refine (HLog.out _ b' HT9.out.1 (by simp)).mono ?_; rintro e w10a ⟨a1, d1, rfl, ev1, bb1⟩; have sm1 := HT9.out.1.below bb1; have ew1 := HT9.out.2.1.belowS bb1; have es1 := HT9.out.2.2.belowS bb1) | (go_at_call 16; refine (HSl.out _ a1 d1 ev1 ew1).mono ?_; rintro e w10 ⟨rfl, hb1⟩))
    have HT10 : Hid (Sm w w10 b b' gb cb c X Y G ∧ EvAt w10 (some ⟨g1, 0, none⟩) S1 ∧ EvAt w10 none ([] : List Ev)) := ⟨sm1.below hb1, ew1.belowS hb1, es1.belowS hb1⟩
    clear ev1 ew1 sm1 es1 hb1 bb1
    go_upto_region 15 with (first | (go_at_call 22; refine (HLt.out _ b HT10.out (by simp)).mono ?_; rintro e w11a ⟨a2, d2, l2, rfl, rw2, pm2, sm2⟩) | (go_at_call 21; refine (HSo.out _ a2 d2 l2 rw2 pm2 sm2).mono ?_; rintro e w11b ⟨gz2, rfl, eg2, sn2⟩) | (go_at_call 16; refine (HSs.out _ gz2 eg2 sn2.2.2).mono ?_; rintro e w11 ⟨rfl, hb2⟩))
    have HT11 : Hid (Sm w w11 b b' gb cb c X Y G ∧ EvAt w11 (some ⟨g1, 0, none⟩) S1 ∧ EvAt w11 none ([] : List Ev)) := ⟨sn2.1.below hb2, sn2.2.1.belowS hb2, sn2.2.2.belowS hb2⟩
    clear rw2 pm2 sm2 eg2 sn2 hb2
    go_upto_region 16 with (first | (go_at_call 22; refine (HLt.out _ b' HT11.out (by simp)).mono ?_; rintro e w12a ⟨a3, d3, l3, rfl, rw3, pm3, sm3⟩) | (go_at_call 21; refine (HSo.out _ a3 d3 l3 rw3 pm3 sm3).mono ?_; rintro e w12b ⟨gz3, rfl, eg3, sn3⟩) | (go_at_call 16; refine (HSs.out _ gz3 eg3 sn3.2.2).mono ?_; rintro e w12 ⟨rfl, hb3⟩))
    have HT12 : Hid (Sm w w12 b b' gb cb c X Y G ∧ EvAt w12 (some ⟨g1, 0, none⟩) S1 ∧ EvAt w12 none ([] : List Ev)) := ⟨sn3.1.below hb3, sn3.2.1.belowS hb3, sn3.2.2.belowS hb3⟩
    clear rw3 pm3 sm3 eg3 sn3 hb3
    go_upto_region 17 with (go_at_call 26; refine (HMt.out _ HT12.out.1).mono ?_; rintro e w13 ⟨rfl, sm13⟩)
    have HT13 : Hid (Sm w w13 b b' gb cb c X Y G) := sm13
    clear sm13
    have k0 := (HT13.out.cfg).cell 0
    have k1 := (HT13.out.cfg).cell 1
    have k2 := (HT13.out.cfg).cell 2
    have k3 := (HT13.out.cfg).cell 3
    have k4 := (HT13.out.cfg).cell 4
    have k5 := (HT13.out.cfg).cell 5
    simp only [Cfg.vals, List.getElem?_cons_zero, List.getElem?_cons_succ] at k0 k1 k2 k3 k4 k5
    go_wp2_with (go_at_call 18; refine (HFl.out _).mono ?_; rintro e w14 ⟨rfl, hb14⟩)
    go_ret
    exact ⟨rfl, HT13.out.bel.trans (hb14.mono HT13.out.bel.size)⟩
end Go.Proofs.YtghcololkgeoeaaDoor
namespace Go.Proofs.YtghcololkgeoeaaDoor
open Go.ChangeShapes Go.WideShapes Go.ChangeAt Go.RowKit
set_option linter.unusedVariables false
set_option linter.unusedSimpArgs false
section
variable {H : Type} {enc : TypeId × Value → H} {W : World} {sp : Nat → Bool} {hd : Bool} {base : Nat}
set_option maxRecDepth 100000 in
theorem open_actsC {fuel : Nat} {cs : List Value} {x : DataW H × List MemPlace} (h : DataW.trod enc Tryd.prog W base sp hd fuel 24 cs = some x)
    (B : Nat) (hsz : ∀ elems spare, x.1 = .slice elems spare → elems.length + spare.length ≤ B) : ∃ (sa : Option Addr) (sc : Nat) (acts : List ActR), cs = [.slice sa acts.length sc] ∧ ActsAt W sa acts ∧ (∀ a ∈ acts, EvI a.E) ∧ acts.length ≤ B := by
  have hc8 : Tryd.prog.cellsOf 39 = 8 := by kernel_rfl
  rcases Go.Deep.open_slice Tryd.underlying24 h with ⟨e, _⟩ | ⟨a, len, cap, m, n, D, Pl, e, hb, hl, hm, hmm, hx, hel⟩
  · subst e
    exact ⟨none, 0, [], rfl, fun i hi => absurd hi (by simp), by simp, by simp⟩
  · subst e
    have hlm : len ≤ m := by rw [hmm]; split <;> omega
    have hlen : len ≤ B := by
      have h1 := hsz _ _ (congrArg Prod.fst hx)
      simp only [List.length_map, List.length_range] at h1
      omega
    have hop : ∀ i, ∃ O : ActR, i < len → W.cells? base (a.add (i * 8)) 8 = some O.cells ∧ O.ok ∧ EvI O.E := by
      intro i
      by_cases hi : i < len
      · obtain ⟨cs', h1, h2⟩ := hel i (by omega)
        obtain ⟨O, hO, hok⟩ := open_act2 h2
        rw [hc8, hO] at h1
        exact ⟨O, fun _ => ⟨h1, hok⟩⟩
      · exact ⟨⟨0, 0, 0, ⟨0, 0, 0, 0, 0⟩⟩, fun h => absurd h hi⟩
    let f : Nat → ActR := fun i => Classical.choose (hop i)
    have hf : ∀ i, i < len → W.cells? base (a.add (i * 8)) 8 = some (f i).cells ∧ (f i).ok ∧ EvI (f i).E := fun i hi => Classical.choose_spec (hop i) hi
    refine ⟨some a, cap, (List.range len).map f, by simp, ?_, fun a ha => by obtain ⟨i, hi, rfl⟩ := List.mem_map.1 ha; exact (hf i (List.mem_range.1 hi)).2.2, by simpa using hlen⟩
    intro i hi
    have hi' : i < len := by simpa using hi
    have h0 := (World.cells?_some (hf 0 (by omega)).1).2.2 0 (by omega)
    have hs0 : a.spot = none := by
      have h00 : (f 0).cells[0]? = some (.int .i64 (f 0).d) := rfl
      rw [h00] at h0
      have := World.cell?_spot h0
      simpa [Addr.add] using this
    obtain ⟨ab, ao, asp⟩ := a
    simp only at hs0
    subst hs0
    have hcell : ∀ o, o < 8 → W.cell? ⟨ab, ao + i * 8 + o, none⟩ = (f i).cells[o]? := fun o ho => by
      have h1 := (World.cells?_some (hf i hi').1).2.2 o (by omega)
      have e1 : ((⟨ab, ao, none⟩ : Addr).add (i * 8)).add o = ⟨ab, ao + i * 8 + o, none⟩ := by
        rw [Go.WideShapes.add_plain, Go.WideShapes.add_plain]
      rw [e1] at h1
      exact h1
    refine ⟨by simpa using (hf i hi').2.1, ab, ao, rfl, ?_, fun o ho => ?_⟩
    rotate_left
    · have h := hcell o ho; simp only [List.getElem_map, List.getElem_range] at h ⊢; exact h
    have h1 := hcell 0 (by omega)
    have h00 : (f i).cells[0]? = some (.int .i64 (f i).d) := rfl
    rw [h00] at h1
    exact World.block_lt_of_cell? W _ h1
set_option maxRecDepth 100000 in
theorem open_streams {base0 : Nat} {r : Reach} {v : Value} {d : DataW H} {p : List MemPlace} (hval : Value.okWide Tryd.prog W r base0 51 v) (h : DataW.Trod enc Tryd.prog W base sp hd 51 v d p)
    (B : Nat) (hsz : ∀ elems spare, d = .slice elems spare → elems.length + spare.length ≤ B ∧ ∀ y ∈ elems, ∀ e2 s2, y = .slice e2 s2 → e2.length + s2.length ≤ B) : ∃ (sa : Option Addr) (sc : Nat) (S : List (List ActR)), v = .slice sa S.length sc ∧ StrAt W sa S ∧ (∀ l ∈ S, l.length ≤ B) ∧ S.length ≤ B := by
  have hc1 : Tryd.prog.cellsOf 24 = 1 := by kernel_rfl
  obtain ⟨va, vlen, vcap, rfl⟩ := okWide_slice Tryd.underlying51 hval
  obtain ⟨fuel, h⟩ := h
  have hcl : (Value.slice va vlen vcap).cells.toList = [.slice va vlen vcap] := rfl
  rw [hcl] at h
  rcases Go.Deep.open_slice1 Tryd.underlying51 hc1 h with ⟨e, _⟩ | ⟨a, len, cap, m, n, V, D, Pl, e, hb, hl, hm, hmm, hx, hel⟩
  · simp only [List.cons.injEq, Value.slice.injEq, and_true] at e
    obtain ⟨rfl, rfl, rfl⟩ := e
    exact ⟨none, 0, [], rfl, fun i hi => absurd hi (by simp), by simp, by simp⟩
  · simp only [List.cons.injEq, Value.slice.injEq, and_true] at e
    obtain ⟨rfl, rfl, rfl⟩ := e
    have hlm : vlen ≤ m := by rw [hmm]; split <;> omega
    have hz := hsz _ _ (congrArg Prod.fst hx)
    have hlen : vlen ≤ B := by
      have h1 := hz.1
      simp only [List.length_map, List.length_range] at h1
      omega
    have hop : ∀ i, ∃ O : Option Addr × Nat × List ActR, i < vlen → W.cell? (a.add i) = some (.slice O.1 O.2.2.length O.2.1) ∧ ActsAt W O.1 O.2.2 ∧ (∀ x ∈ O.2.2, EvI x.E) ∧ O.2.2.length ≤ B := by
      intro i
      by_cases hi : i < vlen
      · obtain ⟨h1, h2⟩ := hel i (by omega)
        obtain ⟨sa, sc, acts, hcs, q1, q2, q3⟩ := open_actsC h2 B (fun e2 s2 he => hz.2 _ (List.mem_map.2 ⟨i, List.mem_range.2 hi, rfl⟩) e2 s2 he)
        simp only [List.cons.injEq, and_true] at hcs
        rw [hcs] at h1
        exact ⟨(sa, sc, acts), fun _ => ⟨h1, q1, q2, q3⟩⟩
      · exact ⟨(none, 0, []), fun h => absurd h hi⟩
    let f : Nat → Option Addr × Nat × List ActR := fun i => Classical.choose (hop i)
    have hf : ∀ i, i < vlen → W.cell? (a.add i) = some (.slice (f i).1 (f i).2.2.length (f i).2.1) ∧ ActsAt W (f i).1 (f i).2.2 ∧ (∀ x ∈ (f i).2.2, EvI x.E) ∧ (f i).2.2.length ≤ B := fun i hi => Classical.choose_spec (hop i) hi
    refine ⟨some a, vcap, (List.range vlen).map (fun i => (f i).2.2), by simp, ?_, ?_, by simpa using hlen⟩
    · intro i hi
      have hi' : i < vlen := by simpa using hi
      have h0 := (hf i hi').1
      have hs0 : a.spot = none := by
        have := World.cell?_spot (hf 0 (by omega)).1
        simpa [Addr.add] using this
      obtain ⟨ab, ao, asp⟩ := a
      simp only at hs0
      subst hs0
      rw [Go.WideShapes.add_plain] at h0
      refine ⟨ab, ao, (f i).1, (f i).2.1, rfl, World.block_lt_of_cell? W _ h0, ?_, ?_, ?_⟩
      · simp only [List.getElem_map, List.getElem_range]; exact h0
      · simp only [List.getElem_map, List.getElem_range]; exact (hf i hi').2.1
      · simp only [List.getElem_map, List.getElem_range]; exact (hf i hi').2.2.1
    · intro l hl'
      obtain ⟨i, hi, rfl⟩ := List.mem_map.1 hl'
      exact (hf i (List.mem_range.1 hi)).2.2.2
end
/-! ### what the bound gives -/
theorem bulk_oneS {H : Type} (d : DataW H) : 1 ≤ Rows.uptoBulk d := by
  cases d with
  | lit l => cases l <;> simp [Rows.uptoBulk]
  | nil => simp [Rows.uptoBulk]
  | ptr d => simp [Rows.uptoBulk]
  | slice elems spare => simp [Rows.uptoBulk]
  | agg parts => simp [Rows.uptoBulk]
  | iface t d => simp [Rows.uptoBulk]
  | map entries => simp [Rows.uptoBulk]
  | held h => simp [Rows.uptoBulk]
theorem bulk_lenS {H : Type} (l : List (DataW H)) : l.length ≤ Rows.uptoBulkAll l := by
  induction l with
  | nil => simp [Rows.uptoBulkAll]
  | cons x r ih => have := bulk_oneS x; simp only [Rows.uptoBulkAll, List.length_cons]; omega
theorem bulk_memS {H : Type} {l : List (DataW H)} {x : DataW H} (h : x ∈ l) : Rows.uptoBulk x ≤ Rows.uptoBulkAll l := by
  induction l with
  | nil => simp at h
  | cons y r ih =>
    simp only [Rows.uptoBulkAll]
    rcases List.mem_cons.1 h with rfl | h
    · omega
    · have := ih h; omega
theorem bulk_sliceS {H : Type} {ds elems spare : List (DataW H)} (hk : Rows.uptoSmall H ds = true) (hm : DataW.slice elems spare ∈ ds) : elems.length + spare.length ≤ 1048576 ∧ ∀ y ∈ elems, ∀ e2 s2, y = .slice e2 s2 → e2.length + s2.length ≤ 1048576 := by
  have h : Rows.uptoBulkAll ds ≤ 1048576 := of_decide_eq_true hk
  have h0 := bulk_memS hm
  simp only [Rows.uptoBulk] at h0
  have h1 := bulk_lenS elems
  have h2 := bulk_lenS spare
  refine ⟨by omega, ?_⟩
  intro y hy e2 s2 he
  subst he
  have h3 := bulk_memS hy
  simp only [Rows.uptoBulk] at h3
  have h4 := bulk_lenS e2
  have h5 := bulk_lenS s2
  omega
end Go.Proofs.YtghcololkgeoeaaDoor
