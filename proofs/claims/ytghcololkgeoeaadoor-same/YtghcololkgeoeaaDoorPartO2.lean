import Derived.Test.YtghcololkgeoeaaDoorPartO1
import Derived.Test.YtghcololkgeoeaaDoorPartK9
import Derived.Test.YtghcololkgeoeaaDoorPartL2
import Derived.Deep.QuietTactic
import Derived.BigQuiet
import Derived.Test.YtghcololkgeoeaaDoorPartA0
import Derived.Deep.CutBlock
namespace Go.Proofs.YtghcololkgeoeaaDoor
open Go.RowKit
set_option linter.unusedVariables false
set_option linter.unusedSimpArgs false
attribute [local go_sem ↓] Go.wp_at_zero Go.wp_at_succ

/-! ### all join -/
theorem joined_mix (b n : Nat) (c : Cfg) (sg scc : Nat) (pv : PatV) (A : Nat → List PA) (w : World) (h : MemX w b (newEng c n sg scc pv)) (hn : c.sources = n) (h6 : n ≤ 6) (hok : c.ok) (hA : ∀ s, s < n → ∀ a ∈ A s, 0 ≤ a.E.seq) :
    Calls Tryd.prog 12 #[.pointer (some ⟨b, 0, none⟩), .agg #[.int .i64 c.sources, .int .i64 c.slack, .int .i64 c.policy, .int .i64 c.room, .int .i64 c.idle, .string c.pat]] w fun e w' => e = .returned (.bool true) ∧ ∃ X R, Mix c n A (fun _ => 0) X R ∧ EvoX w b (newEng c n sg scc pv) w' X := by
  refine (joined_gen b n c _ w h hn h6 (fun s Y => (∃ R, Kp n c Y LG0 R) ∧ (∀ (j : Nat) p, j < s → Y.srcs[j]? = some p → p.inn = true ∧ p.idle = false ∧ p.mark = -2199023255552 ∧ p.last = -1) ∧ (∀ (j : Nat), s ≤ j → j < n → Y.srcs[j]? = some zP) ∧ Y.merged ≤ -2199023255552 ∧ Y.c = c) ?_ ?_ ?_ ?_).mono ?_
  · refine ⟨⟨_, kp_new hn hok⟩, fun j p hj => by omega, fun j _ hj => ?_, Int.le_refl _, rfl⟩
    show (List.replicate n zP)[j]? = some zP
    rw [List.getElem?_replicate, if_pos hj]
  · rintro s Y ⟨⟨R, hk⟩, _⟩
    obtain ⟨N, hl⟩ := hk.lk
    exact ⟨hl.sane, hk.n⟩
  · rintro s Y hlt ⟨⟨R, hk⟩, h1, h2, h3, h4⟩ hinn
    exfalso
    have := h2 s (Nat.le_refl _) (by rw [← hk.n]; exact hlt)
    rw [List.getElem?_eq_getElem hlt] at this
    have e := Option.some.inj this
    rw [e] at hinn
    cases hinn
  · rintro s Y hlt ⟨⟨R, hk⟩, h1, h2, h3, h4⟩ hinn Y' hpl
    have hz : Y.srcs[s] = zP := by
      have := h2 s (Nat.le_refl _) (by rw [← hk.n]; exact hlt)
      rw [List.getElem?_eq_getElem hlt] at this
      exact Option.some.inj this
    have hJ : JoinsX Y s 0 Y' := Or.inr ⟨s, _, rfl, List.getElem?_eq_getElem hlt, Or.inr ⟨hinn, rfl, hpl⟩⟩
    obtain ⟨R', hk'⟩ := kp_join hk hJ
    have hsrc : Y'.srcs = Y.srcs.set s (({ Y.srcs[s] with inn := true } : PSrc).activated Y.merged) := by
      obtain ⟨ga, gc, wa, wc, rfl⟩ := hpl; rfl
    have hact : ({ Y.srcs[s] with inn := true } : PSrc).activated Y.merged = { zP with inn := true, idle := false, sil := 0 } := by
      rw [hz]
      unfold PSrc.activated PSrc.raised
      rw [if_neg (by show ¬ (-2199023255552 : Int) < Y.merged; omega)]
    rw [hact] at hsrc
    have hs' : Y'.srcs[s]? = some { zP with inn := true, idle := false, sil := 0 } := by rw [hsrc, List.getElem?_set, if_pos rfl, if_pos hlt]
    refine ⟨⟨R', hk'⟩, ?_, ?_, ?_, (joinX_grow hJ).c.trans h4⟩
    · intro j p hj hp
      rw [hsrc, List.getElem?_set] at hp
      by_cases e : s = j
      · rw [if_pos e, if_pos hlt] at hp
        have := Option.some.inj hp
        rw [← this]; exact ⟨rfl, rfl, rfl, rfl⟩
      · rw [if_neg e] at hp
        exact h1 j p (by omega) hp
    · intro j hj hjn
      rw [hsrc, List.getElem?_set, if_neg (by omega)]
      exact h2 j (by omega) hjn
    · obtain ⟨N, hl⟩ := hk'.lk
      have := hl.sim.act s _ hs' rfl rfl
      rw [hl.sim.merged]; exact this
  · rintro e w' ⟨he, Y, ⟨⟨R, hk⟩, h1, h2, h3, h4⟩, hev⟩
    refine ⟨he, Y, R, ⟨hk.lk, hk.stl, hk.n, h4, ?_, ?_, ?_, fun s _ => Nat.zero_le _⟩, hev⟩
    · intro s hs
      have hlt : s < Y.srcs.length := by rw [hk.n]; exact hs
      obtain ⟨q1, q2, q3, q4⟩ := h1 s _ hs (List.getElem?_eq_getElem hlt)
      refine ⟨_, List.getElem?_eq_getElem hlt, q1, q2, by rw [q3]; rfl, ?_⟩
      intro j a _ ha
      rw [q4]
      have := hA s hs a (List.mem_of_getElem? ha)
      omega
    · rw [← hk.all]
      have : kpAll c.slack n A (fun _ => 0) = [] := by
        unfold kpAll
        rw [List.flatMap_eq_nil_iff]; intro s _; rfl
      rw [this]; exact List.Perm.refl _
    · rw [← hk.aside]
      have : asAll c.slack n A (fun _ => 0) = [] := by
        unfold asAll
        rw [List.flatMap_eq_nil_iff]; intro s _; rfl
      rw [this]
      split <;> exact List.Perm.refl _
/-- what an engine shows when all have left -/
structure MixEnd (c : Cfg) (n : Nat) (A : Nat → List PA) (X : Eng) : Prop where
  log : X.log.Perm (kpAll c.slack n A (fun s => (A s).length))
  srt : Srt X.log
  late : X.late.Perm (if c.policy = 1 then asAll c.slack n A (fun s => (A s).length) else [])
  cc : X.c = c
  sane : SaneX X
  ts : TsOk X.log
theorem kpAll_congr {sl : Int} {n : Nat} {A : Nat → List PA} {k k' : Nat → Nat} (h : ∀ s, s < n → k s = k' s) : kpAll sl n A k = kpAll sl n A k' ∧ asAll sl n A k = asAll sl n A k' := by
  unfold kpAll asAll
  have : ∀ (f g : Nat → List Ev), (∀ s, s < n → f s = g s) → (List.range n).flatMap f = (List.range n).flatMap g := by
    intro f g hfg
    have key : ∀ L : List Nat, (∀ t ∈ L, t < n) → L.flatMap f = L.flatMap g := by
      intro L
      induction L with
      | nil => intro _; rfl
      | cons a L ih => intro hL; rw [List.flatMap_cons, List.flatMap_cons, hfg a (hL a (by simp)), ih (fun t ht => hL t (by simp [ht]))]
    exact key _ (fun t ht => List.mem_range.1 ht)
  constructor
  · exact this _ _ (fun s hs => by rw [h s hs])
  · exact this _ _ (fun s hs => by rw [h s hs])
theorem left_mix (b n : Nat) (c : Cfg) (A : Nat → List PA) (k : Nat → Nat) (X : Eng) (R : Ref) (w : World) (h : MemX w b X) (hM : Mix c n A k X R) (hn : c.sources = n) (h6 : n ≤ 6) (hk : ∀ s, s < n → k s = (A s).length) :
    Calls Tryd.prog 20 #[.pointer (some ⟨b, 0, none⟩), .agg #[.int .i64 c.sources, .int .i64 c.slack, .int .i64 c.policy, .int .i64 c.room, .int .i64 c.idle, .string c.pat]] w fun e w' => e = .returned (.bool true) ∧ ∃ Y, MixEnd c n A Y ∧ EvoX w b X w' Y := by
  have hRc : R.c = c := by obtain ⟨N, hl⟩ := hM.lk; exact hl.sim.c.symm.trans hM.cc
  have hkp : Kp n c X ⟨R.all, none, 0, R.aside, none, 0⟩ R := ⟨hM.lk, rfl, rfl, hM.stl, hM.nn, hRc⟩
  refine (left_gen b n c X w h hn h6 (fun s Y => (∃ R', Kp n c Y ⟨R.all, none, 0, R.aside, none, 0⟩ R') ∧ (∀ (j : Nat) p, j < s → Y.srcs[j]? = some p → p.inn = false)) ⟨⟨R, hkp⟩, fun j p hj => absurd hj (by omega)⟩ (fun s Y ⟨⟨R', hk'⟩, _⟩ => ⟨by obtain ⟨N, hl⟩ := hk'.lk; exact hl.sane, hk'.n⟩) ?_ ?_).mono ?_
  · rintro s Y hl ⟨hk', hj⟩ hinn
    refine ⟨hk', fun j p hjs hp => ?_⟩
    by_cases e : j = s
    · subst e
      rw [List.getElem?_eq_getElem hl] at hp
      simp only [Option.some.injEq] at hp
      rw [← hp]; exact hinn
    · exact hj j p (by omega) hp
  · rintro s Y hl ⟨⟨R', hk'⟩, hj⟩ hinn Y' hpl
    have hJ : LeavesX Y s 0 Y' := Or.inr ⟨s, _, rfl, List.getElem?_eq_getElem hl, Or.inr ⟨hinn, rfl, hpl⟩⟩
    refine ⟨kp_leave hk' hJ, fun j p hjs hp => ?_⟩
    rcases gone_inn (List.getElem?_eq_getElem hl) hpl j p hp with ⟨_, e⟩ | ⟨e, hp'⟩
    · exact e
    · exact hj j p (by omega) hp'
  · rintro e w' ⟨he, Y, ⟨⟨R', hk'⟩, hj⟩, hev⟩
    refine ⟨he, Y, ?_, hev⟩
    obtain ⟨g1, g2, g3, _, g5, _⟩ := kp_end hk' (fun j p hp => hj j p (by have := get_lt hp; rw [hk'.n] at this; exact this) hp)
    obtain ⟨N, hl⟩ := hk'.lk
    obtain ⟨c1, c2⟩ := kpAll_congr (sl := c.slack) (A := A) hk
    refine ⟨?_, g2, ?_, hl.sim.c.trans hk'.c, g5, like_ts hl⟩
    · rw [← c1]; exact g1.trans hM.all
    · rw [← c2, g3]; exact hM.aside
def atVal (w : World) (pb s : Nat) : Nat :=
  match w.cell? ⟨pb, 1, none⟩ with
  | some (.slice (some a) _ _) => (match w.cell? ⟨a.block, s, none⟩ with | some (.int _ v) => v.toNat | _ => 0)
  | _ => 0
theorem MemP.atVal {w : World} {pb s : Nat} {P : Pl} (h : MemP w pb P) (hs : s < P.L.length) : atVal w pb s = P.k s := by
  obtain ⟨og, tg, m, l, _, hta, _, _, _, x1, _⟩ := h.at_s s hs
  have b1 := h.box.cell 1
  simp only [List.getElem?_cons_zero, List.getElem?_cons_succ] at b1
  unfold Go.Proofs.YtghcololkgeoeaaDoor.atVal
  rw [b1, hta]
  simp only
  rw [x1]
  simp only
  show ((P.k s : Nat) : Int).toNat = P.k s
  omega
theorem plan_aok {c : Cfg} {n : Nat} {S : List (List ActR)} (hn6 : n ≤ 6) (hroom : 1 ≤ c.room ∧ c.room ≤ 32) (hsl : 0 ≤ c.slack) (hpol : 0 ≤ c.policy ∧ c.policy ≤ 1) (hl : ∀ l ∈ S, l.length ≤ 1099511627776) : AOk c n (fun s => (planL c.room S n)[s]?.getD []) := by
  have key : ∀ s, s < n → (planL c.room S n)[s]?.getD [] = planS c.room s (rawOf S s) := by
    intro s hs
    unfold planL
    rw [List.getElem?_map, List.getElem?_range hs]
    rfl
  have hrl : ∀ s, (rawOf S s).length ≤ 1099511627776 := by
    intro s
    unfold rawOf
    cases h : S[s]? with
    | none => simp
    | some l => exact hl l (List.mem_of_getElem? h)
  refine ⟨?_, ?_, ?_, hn6, hroom.2, hsl, hpol⟩
  · intro s hs a ha
    rw [key s hs] at ha
    have h := (planTo_ok (room := c.room) (by omega) s (rawOf S s) (rawOf S s).length).ev a ha
    have := hrl s
    refine ⟨h.1, h.2.1, by have := h.2.2.1; omega, h.2.2.2⟩
  · intro s hs
    rw [key s hs]
    exact (planTo_ok (room := c.room) (by omega) s (rawOf S s) (rawOf S s).length).up
  · intro s hs
    rw [key s hs]
    exact (planTo_ok (room := c.room) (by omega) s (rawOf S s) (rawOf S s).length).cnt.2
end Go.Proofs.YtghcololkgeoeaaDoor
namespace Go.Proofs.YtghcololkgeoeaaDoor
open Go.RowKit
set_option linter.unusedVariables false
set_option linter.unusedSimpArgs false
attribute [local go_sem ↓] Go.wp_at_zero Go.wp_at_succ

set_option maxRecDepth 100000 in
set_option maxHeartbeats 16000000 in
theorem mixed_any (c : Cfg) (n : Nat) (sa : Option Addr) (sc : Nat) (S : List (List ActR)) (ma : Option Addr) (mc : Nat) (mix : List Int) (w : World) (hn : c.sources = n) (hok : c.ok) (hpol : c.policy ≤ 1) (hs : StrAt w sa S) (hl : ∀ l ∈ S, l.length ≤ 1099511627776) (hS : S.length ≤ 9000000000000) (hmx : IntsAt w ma mix) (hml : mix.length ≤ 90000000000000) :
    Calls Tryd.prog 24 #[.agg #[.int .i64 c.sources, .int .i64 c.slack, .int .i64 c.policy, .int .i64 c.room, .int .i64 c.idle, .string c.pat], .slice sa S.length sc, .slice ma mix.length mc] w fun e w' => ∃ b, e = .returned (.tuple #[.pointer (some ⟨b, 0, none⟩), .bool true]) ∧ ∃ X, MixEnd c n (fun s => (planL c.room S n)[s]?.getD []) X ∧ MemX w' b X ∧ (∀ k, some k ∈ X.fp b → w.heap.size ≤ k) ∧ Below w.heap.size w w' := by
  have hft := hok.1
  unfold Cfg.fits at hft
  have hn6 : 1 ≤ n ∧ n ≤ 6 := by omega
  have hroom : 1 ≤ c.room ∧ c.room ≤ 32 := by omega
  have HAok : Hid (AOk c n (fun s => (planL c.room S n)[s]?.getD [])) := plan_aok hn6.2 hroom (by omega) (by omega) hl
  have HNn : Hid (c.sources = n) := hn
  have HOK : Hid c.ok := hok
  have HMd : Hid (∀ u, Calls Tryd.prog 11 #[.agg #[.int .i64 c.sources, .int .i64 c.slack, .int .i64 c.policy, .int .i64 c.room, .int .i64 c.idle, .string c.pat]] u fun e w' => ∃ b sg sc p, e = .returned (.tuple #[.pointer (some ⟨b, 0, none⟩), .bool true]) ∧ MemX w' b (newEng c n sg sc p) ∧ (∀ k, some k ∈ (newEng c n sg sc p).fp b → u.heap.size ≤ k) ∧ Below u.heap.size u w') := fun u => made_any n c u hn hok
  have HPl : Hid (∀ u, Below w.heap.size w u → Calls Tryd.prog 44 #[.agg #[.int .i64 c.sources, .int .i64 c.slack, .int .i64 c.policy, .int .i64 c.room, .int .i64 c.idle, .string c.pat], .slice sa S.length sc] u fun e w' => ∃ pb, e = .returned (.pointer (some ⟨pb, 0, none⟩)) ∧ ∃ P, MemP w' pb P ∧ (∀ k, some k ∈ P.fp pb → u.heap.size ≤ k) ∧ Below u.heap.size u w' ∧ P.L = planL c.room S n ∧ P.K = List.replicate n 0) := fun u hu => plan_any c n sa sc S u hn hn6.2 hroom (hs.below hu) hl hS
  have HMx : Hid (IntsAt w ma mix) := hmx
  have HLl : Hid (∀ l ∈ planL c.room S n, l.length ≤ 4000000000000) := by
    intro l hl'
    unfold planL at hl'
    obtain ⟨s, _, rfl⟩ := List.mem_map.1 hl'
    have h1 := (planTo_ok (room := c.room) (by omega) s (rawOf S s) (rawOf S s).length).len
    have h2 : (rawOf S s).length ≤ 1099511627776 := by
      unfold rawOf
      cases h : S[s]? with
      | none => simp
      | some l => exact hl l (List.mem_of_getElem? h)
    unfold planS; omega
  clear hn hok hs hl hmx hft
  obtain ⟨w1, HW1⟩ := hex (w.alloc (.cells c.vals.toArray 26))
  obtain ⟨cb, HCb⟩ := hex w.heap.size
  have HC1 : Hid (Blk w1 cb 26 c.vals ∧ Below w.heap.size w w1) := by show _ ∧ _; rw [HW1.out, HCb.out]; exact ⟨blk_alloc _ _ _, (Below.refl _ _).alloc (Nat.le_refl _) _⟩
  have hw1 : w.alloc (.cells #[.int .i64 c.sources, .int .i64 c.slack, .int .i64 c.policy, .int .i64 c.room, .int .i64 c.idle, .string c.pat] 26) = w1 := HW1.out.symm
  go_enter Tryd.func24, Tryd.ntmps24
  go_upto_region 1 with fail
  rw [← HCb.out]
  clear hw1 HW1 HCb
  have k0 := (HC1.out.1).cell 0
  have k1 := (HC1.out.1).cell 1
  have k2 := (HC1.out.1).cell 2
  have k3 := (HC1.out.1).cell 3
  have k4 := (HC1.out.1).cell 4
  have k5 := (HC1.out.1).cell 5
  simp only [Cfg.vals, List.getElem?_cons_zero, List.getElem?_cons_succ] at k0 k1 k2 k3 k4 k5
  go_upto_region 2 with (go_at_call 11; refine (HMd.out _).mono ?_; rintro e w2 ⟨b, sg, scc, pv, rfl, hM, hf, hb⟩)
  have HM2 : Hid (MemX w2 b (newEng c n sg scc pv) ∧ (∀ k, some k ∈ (newEng c n sg scc pv).fp b → w1.heap.size ≤ k) ∧ Below w1.heap.size w1 w2 ∧ Blk w2 cb 26 c.vals) := ⟨hM, hf, hb, HC1.out.1.below hb HC1.out.1.lt⟩
  clear hM hf hb k0 k1 k2 k3 k4 k5 HMd
  have k0 := (HM2.out.2.2.2).cell 0
  have k1 := (HM2.out.2.2.2).cell 1
  have k2 := (HM2.out.2.2.2).cell 2
  have k3 := (HM2.out.2.2.2).cell 3
  have k4 := (HM2.out.2.2.2).cell 4
  have k5 := (HM2.out.2.2.2).cell 5
  simp only [Cfg.vals, List.getElem?_cons_zero, List.getElem?_cons_succ] at k0 k1 k2 k3 k4 k5
  have hjx : Calls Tryd.prog 12 #[.pointer (some ⟨b, 0, none⟩), .agg #[.int .i64 c.sources, .int .i64 c.slack, .int .i64 c.policy, .int .i64 c.room, .int .i64 c.idle, .string c.pat]] w2 fun e w' => e = .returned (.bool true) ∧ ∃ X R, Mix c n (fun s => (planL c.room S n)[s]?.getD []) (fun _ => 0) X R ∧ EvoX w2 b (newEng c n sg scc pv) w' X := joined_mix b n c sg scc pv _ w2 HM2.out.1 HNn.out hn6.2 HOK.out (fun s hs a ha => (HAok.out.ev s hs a ha).2.1)
  go_upto_region 5 with (go_at_call 12; refine hjx.mono ?_; rintro e w3 ⟨rfl, X3, R3, hm3, hev3⟩)
  have HX3 : Hid (MemX w3 b X3 ∧ (∀ k, some k ∈ X3.fp b → w1.heap.size ≤ k) ∧ Below w1.heap.size w1 w3 ∧ Blk w3 cb 26 c.vals ∧ some cb ∉ X3.fp b) := by
    have hcl := HC1.out.1.lt
    refine ⟨hev3.mem, ?_, kept_toBelow HM2.out.2.2.1 hev3.kept HM2.out.2.1, HM2.out.2.2.2.kept hev3.kept (fun e => by have := HM2.out.2.1 cb e; omega), ?_⟩
    · intro k hk
      rcases hev3.grow k hk with f | f
      · exact HM2.out.2.1 k f
      · exact Nat.le_trans HM2.out.2.2.1.size f
    · intro hk
      rcases hev3.grow cb hk with f | f
      · have := HM2.out.2.1 cb f; omega
      · have := HM2.out.2.2.2.lt; omega
  have HMi3 : Hid (Mix c n (fun s => (planL c.room S n)[s]?.getD []) (fun _ => 0) X3 R3) := hm3
  clear hjx hm3 hev3 HM2 k0 k1 k2 k3 k4 k5
  have HB3 : Hid (Below w.heap.size w w3) := HC1.out.2.trans (HX3.out.2.2.1.mono HC1.out.2.size)
  have k0 := (HX3.out.2.2.2.1).cell 0
  have k1 := (HX3.out.2.2.2.1).cell 1
  have k2 := (HX3.out.2.2.2.1).cell 2
  have k3 := (HX3.out.2.2.2.1).cell 3
  have k4 := (HX3.out.2.2.2.1).cell 4
  have k5 := (HX3.out.2.2.2.1).cell 5
  simp only [Cfg.vals, List.getElem?_cons_zero, List.getElem?_cons_succ] at k0 k1 k2 k3 k4 k5
  go_upto_region 6 with (go_at_call 44; refine (HPl.out _ HB3.out).mono ?_; rintro e w4 ⟨pb, rfl, P4, hp4, hf4, hb4, hL4, hK4⟩)
  clear k0 k1 k2 k3 k4 k5
  obtain ⟨bs, HBs⟩ := hex [(cb, 26, c.vals)]
  obtain ⟨w5, HW5⟩ := hex w1
  have HE4 : Hid (EP w5 w4 b pb bs X3 P4) := by
    show EP _ _ _ _ _ _ _
    rw [HW5.out]
    have hs3 := HX3.out.2.2.1.size
    refine ⟨HX3.out.1.below hb4, hp4, fun k hk hq => ?_, HX3.out.2.2.1.trans (hb4.mono hs3), HX3.out.2.1, fun k hk => Nat.le_trans hs3 (hf4 k hk), ?_, ?_, ?_⟩
    · have h1 := HX3.out.1.fp_lt k hk
      have h2 := hf4 k hq
      omega
    · rw [HBs.out]; intro x hx; simp only [List.mem_cons, List.not_mem_nil, or_false] at hx; subst hx
      exact HX3.out.2.2.2.1.below hb4 HX3.out.2.2.2.1.lt
    · rw [HBs.out]; intro x hx; simp only [List.mem_cons, List.not_mem_nil, or_false] at hx; subst hx
      exact HX3.out.2.2.2.2
    · rw [HBs.out]; intro x hx hq; simp only [List.mem_cons, List.not_mem_nil, or_false] at hx; subst hx
      have h1 := HX3.out.2.2.2.1.lt
      have h2 := hf4 _ hq
      simp only at *
      omega
  have HPk : Hid (P4.L = planL c.room S n ∧ P4.k = fun _ => 0) := ⟨hL4, by
    funext t
    unfold Pl.k
    rw [hK4, List.getElem?_replicate]
    split <;> rfl⟩
  have HM4 : Hid (Mix c n (fun s => (planL c.room S n)[s]?.getD []) P4.k X3 R3) := by show Mix _ _ _ _ _ _; rw [HPk.out.2]; exact HMi3.out
  have HBw : Hid (Below w.heap.size w w5) := by show Below _ _ _; rw [HW5.out]; exact HC1.out.2
  have HLL : Hid (P4.L = planL c.room S n) := HPk.out.1
  clear hp4 hf4 hb4 hL4 hK4 HX3 HMi3 HB3 HPl HPk HW5 HC1
  have HNx : Hid (∀ (u : World) (X : Eng) (P : Pl) (R : Ref) (s : Nat), EP w5 u b pb bs X P → Mix c n (fun s => (planL c.room S n)[s]?.getD []) P.k X R → P.L = planL c.room S n → s < n → Calls Tryd.prog 45 #[.pointer (some ⟨pb, 0, none⟩), .pointer (some ⟨b, 0, none⟩), .int .i64 s] u fun e w' => e = .returned (.bool true) ∧ ∃ X' P' R', EP w5 w' b pb bs X' P' ∧ Mix c n (fun s => (planL c.room S n)[s]?.getD []) P'.k X' R' ∧ P'.L = planL c.room S n ∧ P'.k = (if P.k s < (P.A s).length then bump P.k s else P.k)) := by
    intro u X P R s h1 h2 h3 h4
    have hPA : P.A = (fun s => (planL c.room S n)[s]?.getD []) := by funext t; unfold Pl.A; rw [h3]
    refine (next_any c n s b pb bs X P R w5 u h1 (by rw [hPA]; exact h2) (by rw [hPA]; exact HAok.out) h4 (by rw [h3, planL_len]) (by rw [h3]; exact HLl.out)).mono ?_
    rintro e w' ⟨he, X', P', R', g1, g2, g3, g4⟩
    rw [hPA] at g2
    exact ⟨he, X', P', R', g1, g2, g3.trans h3, g4⟩
  go_wp2
  go_loopw [9, 11] (fun ov iv wr => ∃ (i : Nat) (X : Eng) (P : Pl) (R : Ref), ov = .bool true ∧ i ≤ mix.length ∧ iv = .int .i64 i ∧ EP w5 wr b pb bs X P ∧ Mix c n (fun s => (planL c.room S n)[s]?.getD []) P.k X R ∧ P.L = planL c.room S n) (fun _ iv _ => mix.length - (intOf iv).toNat)
  case atStart => exact ⟨0, X3, P4, R3, rfl, Nat.zero_le _, rfl, HE4.out, HM4.out, HLL.out⟩
  case round =>
    clear HE4 HM4 HLL
    obtain ⟨i, X, P, R, rfl, hi, rfl, he, hm, hL⟩ := hrel
    have HE : Hid (EP w5 wr b pb bs X P) := he
    have HM : Hid (Mix c n (fun s => (planL c.room S n)[s]?.getD []) P.k X R ∧ P.L = planL c.room S n) := ⟨hm, hL⟩
    clear he hm hL
    have k0 := ((HE.out.bx (cb, 26, c.vals) (HBs.out ▸ by simp))).cell 0
    simp only [Cfg.vals, List.getElem?_cons_zero] at k0
    rw [HNn.out] at k0
    by_cases hil : i < mix.length
    · have hil' : (i : Int) < (mix.length : Int) := by omega
      have hi0 : (0 : Int) ≤ (i : Int) := by omega
      obtain ⟨hmi, mb, mo, hma, hmbl, hmc⟩ := HMx.out i hil
      obtain ⟨mi, HMi⟩ := hex mix[i]
      rw [← HMi.out] at hmc hmi
      have m0 := (HE.out.bel.cell (p := ⟨mb, mo + i, none⟩) (Nat.lt_of_lt_of_le hmbl HBw.out.size)).trans ((HBw.out.cell (p := ⟨mb, mo + i, none⟩) hmbl).trans hmc)
      have HM0 : Hid (w5.cell? ⟨mb, mo + i, none⟩ = some (.int .i64 mi)) := (HBw.out.cell (p := ⟨mb, mo + i, none⟩) hmbl).trans hmc
      subst hma
      have hpk : ∀ u, Calls Tryd.prog 23 #[.int .i64 mi, .int .i64 n] u fun e w' => e = .returned (.int .i64 (pk mi n)) ∧ u = w' := fun u => pick_any _ _ u hmi (by omega) (by omega)
      have hpr := pk_range (c := mi) (n := n) (by omega)
      obtain ⟨s, hse⟩ : ∃ s : Nat, pk mi n = s := ⟨(pk mi n).toNat, by omega⟩
      rw [hse] at hpk hpr
      have hsn : s < n := by omega
      have hnx := fun (u : World) (hu : EP w5 u b pb bs X P) => HNx.out u X P R s hu HM.out.1 HM.out.2 hsn
      clear hpr hse hmc hmi HMi hmbl
      go_upto_region 9 with fail
      refine upTo_region (fun u : World => u.cell? ⟨mb, mo + i, none⟩ = some (.int .i64 mi) ∧ u.cell? ⟨cb, 0, none⟩ = some (.int .i64 n)) 11 11 rfl (by kernel_rfl) ?_
      have hS0 : (fun u : World => u.cell? ⟨mb, mo + i, none⟩ = some (.int .i64 mi) ∧ u.cell? ⟨cb, 0, none⟩ = some (.int .i64 n)) wr.drew := ⟨m0, k0⟩
      refine upTo_take2 (i := 0) (v := ?v93_0) rfl (by kernel_rfl) (by kernel_rfl) (by kernel_rfl) rfl (fun _ _ _ h => h) (by rfl) hS0 ?hy93_0 ?rest93_0
      case hy93_0 => (intro u hu; (try dsimp only at hu); go_simp; first | done | with_reducible rfl)
      (try simp only [Act.put, List.setIfInBounds_toArray, List.set_cons_zero, List.set_cons_succ, List.getElem_toArray, List.getElem_cons_succ, List.getElem_cons_zero])
      refine upTo_take2 (i := 1) (v := ?v93_1) rfl (by kernel_rfl) (by kernel_rfl) (by kernel_rfl) rfl (fun _ _ _ h => h) (by rfl) hS0 ?hy93_1 ?rest93_1
      case hy93_1 => (intro u hu; (try dsimp only at hu); go_simp; first | done | with_reducible rfl)
      (try simp only [Act.put, List.setIfInBounds_toArray, List.set_cons_zero, List.set_cons_succ, List.getElem_toArray, List.getElem_cons_succ, List.getElem_cons_zero])
      refine upTo_take2 (i := 2) (v := ?v93_2) rfl (by kernel_rfl) (by kernel_rfl) (by kernel_rfl) rfl (fun _ _ _ h => h) (by rfl) hS0 ?hy93_2 ?rest93_2
      case hy93_2 => (intro u hu; (try dsimp only at hu); go_simp; first | done | with_reducible rfl)
      (try simp only [Act.put, List.setIfInBounds_toArray, List.set_cons_zero, List.set_cons_succ, List.getElem_toArray, List.getElem_cons_succ, List.getElem_cons_zero])
      refine upTo_take2 (i := 3) (v := ?v93_3) rfl (by kernel_rfl) (by kernel_rfl) (by kernel_rfl) rfl (fun _ _ _ h => h) (by rfl) hS0 ?hy93_3 ?rest93_3
      case hy93_3 => (intro u hu; (try dsimp only at hu); go_simp; first | done | with_reducible rfl)
      (try simp only [Act.put, List.setIfInBounds_toArray, List.set_cons_zero, List.set_cons_succ, List.getElem_toArray, List.getElem_cons_succ, List.getElem_cons_zero])
      refine upTo_take2 (i := 4) (v := ?v93_4) rfl (by kernel_rfl) (by kernel_rfl) (by kernel_rfl) rfl (fun _ _ _ h => h) (by rfl) hS0 ?hy93_4 ?rest93_4
      case hy93_4 => (intro u hu; (try dsimp only at hu); go_simp; first | done | with_reducible rfl)
      (try simp only [Act.put, List.setIfInBounds_toArray, List.set_cons_zero, List.set_cons_succ, List.getElem_toArray, List.getElem_cons_succ, List.getElem_cons_zero])
      refine upTo_take2 (i := 5) (v := ?v93_5) rfl (by kernel_rfl) (by kernel_rfl) (by kernel_rfl) rfl (fun _ _ _ h => h) (by rfl) hS0 ?hy93_5 ?rest93_5
      case hy93_5 => (intro u hu; (try dsimp only at hu); go_simp; first | done | with_reducible rfl)
      (try simp only [Act.put, List.setIfInBounds_toArray, List.set_cons_zero, List.set_cons_succ, List.getElem_toArray, List.getElem_cons_succ, List.getElem_cons_zero])
      refine upTo_take2 (i := 6) (v := ?v93_6) rfl (by kernel_rfl) (by kernel_rfl) (by kernel_rfl) rfl (fun _ _ _ h => h) (by rfl) hS0 ?hy93_6 ?rest93_6
      case hy93_6 => (intro u hu; (try dsimp only at hu); go_simp; first | done | with_reducible rfl)
      (try simp only [Act.put, List.setIfInBounds_toArray, List.set_cons_zero, List.set_cons_succ, List.getElem_toArray, List.getElem_cons_succ, List.getElem_cons_zero])
      refine upTo_take2 (i := 7) (v := ?v93_7) rfl (by kernel_rfl) (by kernel_rfl) (by kernel_rfl) rfl (fun _ _ _ h => h) (by rfl) hS0 ?hy93_7 ?rest93_7
      case hy93_7 => (intro u hu; (try dsimp only at hu); go_simp; first | done | with_reducible rfl)
      (try simp only [Act.put, List.setIfInBounds_toArray, List.set_cons_zero, List.set_cons_succ, List.getElem_toArray, List.getElem_cons_succ, List.getElem_cons_zero])
      refine upTo_one (i := 8) (by kernel_rfl) rfl (fun K hK => ?_)
      go_simp
      refine (hpk _).mono ?_
      rintro e w' ⟨rfl, rfl⟩
      refine hK.out _ _ (fun _ => ⟨m0, k0⟩) ?_
      clear hK K hS0
      (try simp only [Act.put, List.setIfInBounds_toArray, List.set_cons_zero, List.set_cons_succ, List.getElem_toArray, List.getElem_cons_succ, List.getElem_cons_zero])
      refine upTo_one (i := 9) (by kernel_rfl) rfl (fun K hK => ?_)
      go_simp
      refine (hnx _ (HE.out.below ((Below.refl _ wr).drew))).mono ?_
      rintro e v1 ⟨rfl, X1, P1, R1, he1, hm1, hL1, _⟩
      have hS1 : (fun u : World => u.cell? ⟨mb, mo + i, none⟩ = some (.int .i64 mi) ∧ u.cell? ⟨cb, 0, none⟩ = some (.int .i64 n)) v1 := ⟨(he1.bel.cell (p := ⟨mb, mo + i, none⟩) (World.block_lt_of_cell? w5 _ HM0.out)).trans HM0.out, by have h := (he1.bx (cb, 26, c.vals) (HBs.out ▸ by simp)).cell 0; simp only [Cfg.vals, List.getElem?_cons_zero] at h; rw [HNn.out] at h; exact h⟩
      refine hK.out _ _ (fun _ => hS1) ?_
      clear hK K
      (try simp only [Act.put, List.setIfInBounds_toArray, List.set_cons_zero, List.set_cons_succ, List.getElem_toArray, List.getElem_cons_succ, List.getElem_cons_zero])
      refine upTo_one (i := 10) (by kernel_rfl) rfl (fun K hK => ?_)
      go_simp
      refine hK.out _ _ (fun _ => hS1) ?_
      clear hK K
      (try simp only [Act.put, List.setIfInBounds_toArray, List.set_cons_zero, List.set_cons_succ, List.getElem_toArray, List.getElem_cons_succ, List.getElem_cons_zero])
      refine upTo_done (by kernel_rfl) ?_
      clear hS1 m0 k0 hpk hnx
      go_wp2
      go_roundw
      case rel => first | exact ⟨i + 1, X1, P1, R1, rfl, by omega, by go_num, he1, hm1, hL1⟩ | ((repeat apply Exists.intro); exact ⟨⟨i + 1, X1, P1, R1, rfl, by omega, by go_num, he1, hm1, hL1⟩, rfl⟩)
      case measure => simp [intOf]; omega
    · have hil' : ¬ (i : Int) < (mix.length : Int) := by omega
      have hid : decide ((i : Int) < (mix.length : Int)) = false := by simpa using hil'
      go_upto_region 10 with fail
      obtain ⟨wo, HWo⟩ := hex wr
      rw [← HWo.out] at HE
      rw [← HWo.out]
      clear HWo k0
      go_wp2
      go_loopw [9, 12] (fun ov sv wr => ∃ (s : Nat) (X : Eng) (P : Pl) (R : Ref), ov = .bool true ∧ s ≤ n ∧ sv = .int .i64 s ∧ EP w5 wr b pb bs X P ∧ Mix c n (fun s => (planL c.room S n)[s]?.getD []) P.k X R ∧ P.L = planL c.room S n ∧ ∀ t, t < s → P.k t = (P.A t).length) (fun _ sv _ => n - (intOf sv).toNat)
      case atStart => exact ⟨0, X, P, R, rfl, Nat.zero_le _, rfl, HE.out, HM.out.1, HM.out.2, fun t ht => by omega⟩
      case round =>
        clear HE HM
        obtain ⟨s, X, P, R, rfl, hs, rfl, he, hm, hL, hdn⟩ := hrel
        have HE : Hid (EP w5 wr b pb bs X P) := he
        have HM : Hid (Mix c n (fun s => (planL c.room S n)[s]?.getD []) P.k X R ∧ P.L = planL c.room S n ∧ ∀ t, t < s → P.k t = (P.A t).length) := ⟨hm, hL, hdn⟩
        clear he hm hL hdn
        have k0 := ((HE.out.bx (cb, 26, c.vals) (HBs.out ▸ by simp))).cell 0
        simp only [Cfg.vals, List.getElem?_cons_zero] at k0
        rw [HNn.out] at k0
        by_cases hsn : s < n
        · have hsn' : (s : Int) < (n : Int) := by omega
          have hs0 : (0 : Int) ≤ (s : Int) := by omega
          go_upto_block 4 with fail
          obtain ⟨wo2, HWo2⟩ := hex wr
          rw [← HWo2.out] at HE
          rw [← HWo2.out]
          clear HWo2 k0
          obtain ⟨AL, HAL⟩ := hex ((fun s => (planL c.room S n)[s]?.getD []) s)
          go_wp2
          go_loopw [9] (fun ov wr => ∃ (X : Eng) (P : Pl) (R : Ref), ov = .bool true ∧ EP w5 wr b pb bs X P ∧ Mix c n (fun s => (planL c.room S n)[s]?.getD []) P.k X R ∧ P.L = planL c.room S n ∧ ∀ t, t < s → P.k t = (P.A t).length) (fun _ wr => AL.length - atVal wr pb s)
          case atStart => exact ⟨X, P, R, rfl, HE.out, HM.out.1, HM.out.2.1, HM.out.2.2⟩
          case round =>
            clear HE HM
            obtain ⟨X, P, R, rfl, he, hm, hL, hdn⟩ := hrel
            have hsL : s < P.L.length := by rw [hL, planL_len]; exact hsn
            have HAv : Hid (atVal wr pb s = P.k s) := he.mp.atVal hsL
            obtain ⟨og, tg, m, l, hpa, hta, hms, hls, x0, x1, _⟩ := he.mp.at_s s hsL
            change wr.cell? ⟨tg, s, none⟩ = some (.int .i64 ((P.k s : Nat) : Int)) at x1
            have b0 := he.mp.box.cell 0
            have b1 := he.mp.box.cell 1
            simp only [List.getElem?_cons_zero, List.getElem?_cons_succ] at b0 b1
            rw [hpa] at b0
            rw [hta] at b1
            obtain ⟨nL, HNL⟩ := hex P.L.length
            rw [← HNL.out] at b0 b1
            have hsL' : (s : Int) < (nL : Int) := by rw [HNL.out]; omega
            have HlA : Hid (l = AL ∧ P.A s = AL) := by
              have h1 : P.A s = l := by unfold Pl.A; rw [hls]; rfl
              have h2 : P.A s = AL := by rw [HAL.out]; unfold Pl.A; rw [hL]
              exact ⟨h1.symm.trans h2, h2⟩
            obtain ⟨j, HJ⟩ := hex (P.k s)
            rw [← HJ.out] at x1
            obtain ⟨nl, HNl⟩ := hex l.length
            rw [← HNl.out] at x0
            have HE : Hid (EP w5 wr b pb bs X P) := he
            have HM : Hid (Mix c n (fun s => (planL c.room S n)[s]?.getD []) P.k X R ∧ P.L = planL c.room S n ∧ ∀ t, t < s → P.k t = (P.A t).length) := ⟨hm, hL, hdn⟩
            have hnx := HNx.out (wr) X P R s
            clear he hm hL hdn hsL hms hls hpa hta
            by_cases hjl : j < nl
            · have hjl' : (j : Int) < (nl : Int) := by omega
              have hnx2 : ∀ q, Calls Tryd.prog 45 #[.pointer (some ⟨pb, 0, none⟩), .pointer (some ⟨b, 0, none⟩), .int .i64 s] (wr.drewN q) fun e w' => e = .returned (.bool true) ∧ ∃ X' P' R', EP w5 w' b pb bs X' P' ∧ Mix c n (fun s => (planL c.room S n)[s]?.getD []) P'.k X' R' ∧ P'.L = planL c.room S n ∧ (∀ t, t < s → P'.k t = (P'.A t).length) ∧ atVal w' pb s = j + 1 := fun q => by
                refine (HNx.out (wr.drewN q) X P R s (HE.out.below ⟨rfl, rfl, rfl, Nat.le_refl _, fun _ _ => rfl⟩) HM.out.1 HM.out.2.1 hsn).mono ?_
                rintro e w' ⟨he, X', P', R', g1, g2, g3, g4⟩
                have hlt : P.k s < (P.A s).length := by rw [HlA.out.2, ← HlA.out.1, ← HJ.out, ← HNl.out]; exact hjl
                rw [if_pos hlt] at g4
                refine ⟨he, X', P', R', g1, g2, g3, ?_, ?_⟩
                · intro t ht
                  have hA' : P'.A = P.A := by funext t; unfold Pl.A; rw [g3, HM.out.2.1]
                  rw [g4, hA', bump_ne (by omega)]
                  exact HM.out.2.2 t ht
                · rw [g1.mp.atVal (by rw [g3, planL_len]; exact hsn), g4]
                  unfold bump
                  rw [if_pos rfl, ← HJ.out]
              clear hnx
              go_wp2
              go_quiet (fail)
              go_wp2_with (go_at_call 45; refine (hnx2 _).mono ?_; rintro e v1 ⟨rfl, X1, P1, R1, he1, hm1, hL1, hd1, hv1⟩)
              go_roundw
              case rel => first | exact ⟨X1, P1, R1, rfl, he1, hm1, hL1, hd1⟩ | ((repeat apply Exists.intro); exact ⟨⟨X1, P1, R1, rfl, he1, hm1, hL1, hd1⟩, rfl⟩)
              case measure =>
                have e1 := HAv.out
                have e2 : nl = AL.length := by rw [HNl.out, HlA.out.1]
                rw [hv1, e1, ← HJ.out]; omega
            · have hjl' : ¬ (j : Int) < (nl : Int) := by omega
              have HDn : Hid (∀ t, t < s + 1 → P.k t = (P.A t).length) := by
                intro t ht
                by_cases e : t < s
                · exact HM.out.2.2 t e
                · have : t = s := by omega
                  subst this
                  have hPA : P.A = (fun s => (planL c.room S n)[s]?.getD []) := by funext t; unfold Pl.A; rw [HM.out.2.1]
                  have hle : P.k t ≤ (P.A t).length := by rw [hPA]; exact HM.out.1.kle t hsn
                  rw [HlA.out.2, ← HlA.out.1, ← HNl.out, ← HJ.out] at hle ⊢
                  omega
              clear hnx
              go_wp2
              go_quiet (fail)
              go_wp2
              go_roundw
              case rel => first | exact ⟨s + 1, X, P, R, rfl, by omega, by go_num, HE.out.below ⟨rfl, rfl, rfl, Nat.le_refl _, fun _ _ => rfl⟩, HM.out.1, HM.out.2.1, HDn.out⟩ | ((repeat apply Exists.intro); exact ⟨⟨s + 1, X, P, R, rfl, by omega, by go_num, HE.out.below ⟨rfl, rfl, rfl, Nat.le_refl _, fun _ _ => rfl⟩, HM.out.1, HM.out.2.1, HDn.out⟩, rfl⟩)
              case measure => simp [intOf]; omega
        · have hsn' : ¬ (s : Int) < (n : Int) := by omega
          have hsn2 : n ≤ s := by omega
          go_upto_region 17 with fail
          clear k0
          have k0 := (HE.out.bx (cb, 26, c.vals) (HBs.out ▸ by simp)).cell 0
          have k1 := (HE.out.bx (cb, 26, c.vals) (HBs.out ▸ by simp)).cell 1
          have k2 := (HE.out.bx (cb, 26, c.vals) (HBs.out ▸ by simp)).cell 2
          have k3 := (HE.out.bx (cb, 26, c.vals) (HBs.out ▸ by simp)).cell 3
          have k4 := (HE.out.bx (cb, 26, c.vals) (HBs.out ▸ by simp)).cell 4
          have k5 := (HE.out.bx (cb, 26, c.vals) (HBs.out ▸ by simp)).cell 5
          simp only [Cfg.vals, List.getElem?_cons_zero, List.getElem?_cons_succ] at k0 k1 k2 k3 k4 k5
          have hlf : Calls Tryd.prog 20 #[.pointer (some ⟨b, 0, none⟩), .agg #[.int .i64 c.sources, .int .i64 c.slack, .int .i64 c.policy, .int .i64 c.room, .int .i64 c.idle, .string c.pat]] wr fun e w' => e = .returned (.bool true) ∧ ∃ Y, MixEnd c n (fun s => (planL c.room S n)[s]?.getD []) Y ∧ EP w5 w' b pb bs Y P := by
            have hPA : P.A = (fun s => (planL c.room S n)[s]?.getD []) := by funext t; unfold Pl.A; rw [HM.out.2.1]
            refine (left_mix b n c _ P.k X R wr HE.out.mx HM.out.1 HNn.out hn6.2 (fun t ht => by have h := HM.out.2.2 t (by omega); rw [hPA] at h; exact h)).mono ?_
            rintro e w' ⟨he, Y, h1, hev⟩
            exact ⟨he, Y, h1, HE.out.evoX hev⟩
          go_wp2_with (go_at_call 20; refine hlf.mono ?_; rintro e v1 ⟨rfl, Y, hme, hep⟩)
          go_ret2
          exact ⟨b, rfl, Y, hme, hep.mx, fun k hk => Nat.le_trans HBw.out.size (hep.fx k hk), HBw.out.trans (hep.bel.mono HBw.out.size)⟩
end Go.Proofs.YtghcololkgeoeaaDoor
