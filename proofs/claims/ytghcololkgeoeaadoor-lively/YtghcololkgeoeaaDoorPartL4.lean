import Derived.Test.YtghcololkgeoeaaDoorPartL3
namespace Go.Proofs.YtghcololkgeoeaaDoor
open Go.RowKit
set_option linter.unusedVariables false
set_option linter.unusedSimpArgs false
attribute [local go_sem ↓] Go.wp_at_zero Go.wp_at_succ

theorem kp_end {n : Nat} {c : Cfg} {X : Eng} {G : LG} {R : Ref} (h : Kp n c X G R) (ho : ∀ (j : Nat) p, X.srcs[j]? = some p → p.inn = false) : X.log.Perm G.all ∧ Srt X.log ∧ X.late = G.aside ∧ G.all.Pairwise Apart2 ∧ SaneX X ∧ G.all.length ≤ 200 ∧ G.aside.length ≤ 200 := by
  obtain ⟨N, hl⟩ := h.lk
  have hw : R.wait (-1) = [] := h.stl (fun i => by
    unfold Ref.active
    cases hr : R.srcs[i]? with
    | none => rfl
    | some r =>
      have hi : i < X.srcs.length := by rw [hl.sim.n]; exact get_lt hr
      have s := hl.sim.src i _ r (List.getElem?_eq_getElem hi) hr
      have := ho i _ (List.getElem?_eq_getElem hi)
      rw [s.inn] at this
      simp [this])
  have hx : X.wait = [] := by have p := sim_wait hl.sim; rw [hw] at p; exact p.eq_nil
  have hp := hl.sim.perm
  rw [hx, List.append_nil] at hp
  exact ⟨h.all ▸ hp, hl.sim.logS, hl.sim.late.trans h.aside.symm, by rw [h.all]; exact hl.sim.ids, hl.sane, by rw [h.all]; exact hl.good.all, by rw [h.aside]; exact hl.good.aside⟩
theorem kp_new {c : Cfg} {n sg sc : Nat} {p : PatV} (hn : c.sources = n) (hok : c.ok) : Kp n c (newEng c n sg sc p) LG0 (newRef c n none 0 0) :=
  ⟨⟨0, new_like hn hok⟩, rfl, rfl, fun _ => rfl, by show (List.replicate n zP).length = n; simp, rfl⟩
set_option maxRecDepth 100000 in
set_option maxHeartbeats 16000000 in
theorem kept_walk (r : RawC) (sa : Option Addr) (sc : Nat) (acts : List ActR) (w : World) (hr : r.ok) (hsa : ActsAt w sa acts) (hlen : acts.length ≤ 9000000000000000) (htab : ∀ u, Below w.heap.size w u → tab10 u) :
    Calls Tryd.prog 4 #[.agg #[.int .i64 r.sources, .int .i64 r.slack, .int .i64 r.policy, .int .i64 r.room, .int .i64 r.idle, .int .i64 r.pattern], .slice sa acts.length sc] w fun e w' => e = .returned (.bool true) ∧ Below w.heap.size w w' := by
  have HSA : Hid (ActsAt w sa acts) := hsa
  clear hsa
  obtain ⟨c, HC⟩ := hex r.cfg
  have HOK : Hid c.ok := by show c.ok; rw [HC.out]; exact r.cfg_ok
  obtain ⟨n, hn⟩ : ∃ n : Nat, c.sources = n := ⟨c.sources.toNat, by have := HOK.out.1.1; omega⟩
  have HNn : Hid (c.sources = n) := hn
  have hn6 : 1 ≤ n ∧ n ≤ 6 := by have := HOK.out.1.1; have := HOK.out.1.2.1; omega
  have hcf : ∀ u, Below w.heap.size w u → Calls Tryd.prog 10 #[.agg #[.int .i64 r.sources, .int .i64 r.slack, .int .i64 r.policy, .int .i64 r.room, .int .i64 r.idle, .int .i64 r.pattern]] u fun e w' => e = .returned (.agg #[.int .i64 c.sources, .int .i64 c.slack, .int .i64 c.policy, .int .i64 c.room, .int .i64 c.idle, .string c.pat]) ∧ Below u.heap.size u w' := fun u hu => by rw [HC.out]; exact config_any r u hr (fun v hv => htab v (hu.trans (hv.mono hu.size)))
  have HMd : Hid (∀ u, Calls Tryd.prog 11 #[.agg #[.int .i64 c.sources, .int .i64 c.slack, .int .i64 c.policy, .int .i64 c.room, .int .i64 c.idle, .string c.pat]] u fun e w' => ∃ b sg sc p, e = .returned (.tuple #[.pointer (some ⟨b, 0, none⟩), .bool true]) ∧ MemX w' b (newEng c n sg sc p) ∧ (∀ k, some k ∈ (newEng c n sg sc p).fp b → u.heap.size ≤ k) ∧ Below u.heap.size u w') := fun u => made_any n c u hn HOK.out
  have HFl : Hid (∀ u, Calls Tryd.prog 18 #[.agg #[.int .i64 c.sources, .int .i64 c.slack, .int .i64 c.policy, .int .i64 c.room, .int .i64 c.idle, .string c.pat]] u fun e w' => e = .returned (.bool true) ∧ Below u.heap.size u w') := fun u => flows_true n c u hn HOK.out
  clear hn htab hr HC
  have H0 : Hid (Below w.heap.size w (w.alloc (.cells #[.int .i64 r.sources, .int .i64 r.slack, .int .i64 r.policy, .int .i64 r.room, .int .i64 r.idle, .int .i64 r.pattern] 23))) := (Below.refl _ _).alloc (Nat.le_refl _) _
  go_enter Tryd.func4, Tryd.ntmps4
  go_upto_region 2 with (go_at_call 10; refine (hcf _ H0.out).mono ?_; rintro e w1 ⟨rfl, hb1⟩)
  have HB1 : Hid (Below w.heap.size w w1) := H0.out.trans (hb1.mono (by simp))
  clear hcf hb1 H0
  obtain ⟨w2, HW2⟩ := hex (w1.alloc (.cells c.vals.toArray 26))
  have hw2 : w1.alloc (.cells #[.int .i64 c.sources, .int .i64 c.slack, .int .i64 c.policy, .int .i64 c.room, .int .i64 c.idle, .string c.pat] 26) = w2 := HW2.out.symm
  rw [hw2]
  obtain ⟨cb, HCb⟩ := hex w1.heap.size
  have HC2 : Hid (Blk w2 cb 26 c.vals) := by show Blk _ _ _ _; rw [HW2.out, HCb.out]; exact blk_alloc _ _ _
  have HB2 : Hid (Below w.heap.size w w2) := by show Below _ _ _; rw [HW2.out]; exact HB1.out.alloc HB1.out.size _
  rw [← HCb.out]
  clear hw2 HW2 HCb HB1
  have k0 := (HC2.out).cell 0
  have k1 := (HC2.out).cell 1
  have k2 := (HC2.out).cell 2
  have k3 := (HC2.out).cell 3
  have k4 := (HC2.out).cell 4
  have k5 := (HC2.out).cell 5
  simp only [Cfg.vals, List.getElem?_cons_zero, List.getElem?_cons_succ] at k0 k1 k2 k3 k4 k5
  go_upto_region 5 with (go_at_call 11; refine (HMd.out _).mono ?_; rintro e w3 ⟨b, sg, scc, pv, rfl, hM, hf, hb⟩)
  have HC3 : Hid (Blk w3 cb 26 c.vals) := HC2.out.below hb HC2.out.lt
  have hwr : Calls Tryd.prog 19 #[.pointer (some ⟨b, 0, none⟩), .agg #[.int .i64 c.sources, .int .i64 c.slack, .int .i64 c.policy, .int .i64 c.room, .int .i64 c.idle, .string c.pat], .slice sa acts.length sc] w3 fun e w' => ∃ gb, e = .returned (.tuple #[.pointer (some ⟨gb, 0, none⟩), .bool true]) ∧ ∃ X' G', OneL w w' b gb [(cb, 26, c.vals)] X' G' ∧ ∃ R', Kp n c X' G' R' := by
    refine written_any n b c sa sc acts [(cb, 26, c.vals)] (newEng c n sg scc pv) (newRef c n none 0 0) w w3 hM (HB2.out.trans (hb.mono HB2.out.size)) (fun k hk => Nat.le_trans HB2.out.size (hf k hk)) ?_ ?_ (kp_new HNn.out HOK.out) HNn.out hn6 HSA.out hlen
    · intro x hx; simp only [List.mem_cons, List.not_mem_nil, or_false] at hx; subst hx; exact HC3.out
    · intro x hx e; simp only [List.mem_cons, List.not_mem_nil, or_false] at hx; subst hx; have := hf _ e; have := HC2.out.lt; omega
  clear hM hf hb k0 k1 k2 k3 k4 k5
  have k0 := (HC3.out).cell 0
  have k1 := (HC3.out).cell 1
  have k2 := (HC3.out).cell 2
  have k3 := (HC3.out).cell 3
  have k4 := (HC3.out).cell 4
  have k5 := (HC3.out).cell 5
  simp only [Cfg.vals, List.getElem?_cons_zero, List.getElem?_cons_succ] at k0 k1 k2 k3 k4 k5
  go_upto_region 8 with (go_at_call 19; refine hwr.mono ?_; rintro e w4 ⟨gb, rfl, X4, G, hp4, hk4⟩)
  have HP4 : Hid (OneL w w4 b gb [(cb, 26, c.vals)] X4 G) := hp4
  have HK4 : Hid (∃ R', Kp n c X4 G R') := hk4
  clear hwr hp4 hk4 k0 k1 k2 k3 k4 k5 HC2 HC3 HB2 HMd
  have hlf : ∀ u, OneL w u b gb [(cb, 26, c.vals)] X4 G → Calls Tryd.prog 20 #[.pointer (some ⟨b, 0, none⟩), .agg #[.int .i64 c.sources, .int .i64 c.slack, .int .i64 c.policy, .int .i64 c.room, .int .i64 c.idle, .string c.pat]] u fun e w' => e = .returned (.bool true) ∧ ∃ X', OneL w w' b gb [(cb, 26, c.vals)] X' G ∧ (∃ R', Kp n c X' G R') ∧ ∀ (j : Nat) p, X'.srcs[j]? = some p → p.inn = false := fun u hu => by
    obtain ⟨R', hk'⟩ := HK4.out
    exact left_kp n b gb c [(cb, 26, c.vals)] X4 G R' w u hu hk' HNn.out hn6.2
  have k0 := (HP4.out.bx (cb, 26, c.vals) (by simp)).cell 0
  have k1 := (HP4.out.bx (cb, 26, c.vals) (by simp)).cell 1
  have k2 := (HP4.out.bx (cb, 26, c.vals) (by simp)).cell 2
  have k3 := (HP4.out.bx (cb, 26, c.vals) (by simp)).cell 3
  have k4 := (HP4.out.bx (cb, 26, c.vals) (by simp)).cell 4
  have k5 := (HP4.out.bx (cb, 26, c.vals) (by simp)).cell 5
  simp only [Cfg.vals, List.getElem?_cons_zero, List.getElem?_cons_succ] at k0 k1 k2 k3 k4 k5
  go_upto_region 11 with (go_at_call 20; refine (hlf _ HP4.out).mono ?_; rintro e w5 ⟨rfl, X, hp5, hk5, ho5⟩)
  have HP5 : Hid (OneL w w5 b gb [(cb, 26, c.vals)] X G) := hp5
  obtain ⟨R5, hk5⟩ := hk5
  have HE : Hid (X.log.Perm G.all ∧ Srt X.log ∧ X.late = G.aside ∧ G.all.Pairwise Apart2 ∧ SaneX X ∧ G.all.length ≤ 200 ∧ G.aside.length ≤ 200) := kp_end hk5 ho5
  have hgl := HE.out.2.2.2.2.2.1
  have hgd := HE.out.2.2.2.2.2.2
  clear hlf hp5 hk5 ho5 k0 k1 k2 k3 k4 k5 HP4 HK4
  have hlg : ∀ u, OneL w u b gb [(cb, 26, c.vals)] X G → Calls Tryd.prog 15 #[.pointer (some ⟨b, 0, none⟩)] u fun e w' => ∃ (a : Option Addr) (c : Nat), e = .returned (.slice a X.log.length c) ∧ EvAt w' a X.log ∧ Below u.heap.size u w' := fun u hu => (xlog_any b X u hu.mx HE.out.2.2.2.2.1.log).mono fun e w' ⟨a, c, he, hr, hb⟩ => ⟨a, c, he, EvAt.of_owns hr, hb⟩
  have hla : ∀ u, OneL w u b gb [(cb, 26, c.vals)] X G → Calls Tryd.prog 22 #[.pointer (some ⟨b, 0, none⟩)] u fun e w' => ∃ (a : Option Addr) (c : Nat), e = .returned (.slice a X.late.length c) ∧ EvAt w' a X.late ∧ Below u.heap.size u w' := fun u hu => (xlate_any b X u hu.mx HE.out.2.2.2.2.1.late).mono fun e w' ⟨a, c, he, hr, hb⟩ => ⟨a, c, he, EvAt.of_owns hr, hb⟩
  have hso : ∀ u, OneL w u b gb [(cb, 26, c.vals)] X G → Calls Tryd.prog 21 #[.slice G.aa G.all.length G.ac] u fun e w' => ∃ (g : Nat), e = .returned (.slice (some ⟨g, 0, none⟩) X.log.length X.log.length) ∧ EvAt w' (some ⟨g, 0, none⟩) X.log ∧ Below u.heap.size u w' := fun u hu => by
    refine (sorted_any G.all G.aa G.ac u hu.ml.ra (by omega) HE.out.2.2.2.1).mono ?_
    rintro e w' ⟨S, g, he, hs, hg⟩
    have hS : S = X.log := srt_unique (hg.perm.trans HE.out.1.symm) hs HE.out.2.1
    have hll : G.all.length = X.log.length := HE.out.1.length_eq.symm
    subst hS
    rw [hll] at he
    have hrow := hg.row
    rw [hll] at hrow
    exact ⟨g, he, EvAt.of_row (n := 0) hrow, hg.bel⟩
  go_upto_region 11 with fail
  have cx : w5.cell? ⟨gb, 0, none⟩ = some (.slice G.aa G.all.length G.ac) := HP5.out.ml.blk.cell 0
  refine upTo_region (fun u : World => u.cell? ⟨gb, 0, none⟩ = some (.slice G.aa G.all.length G.ac)) 9 9 rfl (by kernel_rfl) ?_
  have hS0 : (fun u : World => u.cell? ⟨gb, 0, none⟩ = some (.slice G.aa G.all.length G.ac)) w5.drew := cx
  refine upTo_take2 (i := 0) (v := ?v47_0) rfl (by kernel_rfl) (by kernel_rfl) (by kernel_rfl) rfl (fun _ _ _ h => h) (by rfl) hS0 ?hy47_0 ?rest47_0
  case hy47_0 => (intro u hu; (try dsimp only at hu); go_simp; first | done | with_reducible rfl)
  (try simp only [Act.put, List.setIfInBounds_toArray, List.set_cons_zero, List.set_cons_succ, List.getElem_toArray, List.getElem_cons_succ, List.getElem_cons_zero])
  refine upTo_take2 (i := 2) (v := ?v47_2) rfl (by kernel_rfl) (by kernel_rfl) (by kernel_rfl) rfl (fun _ _ _ h => h) (by rfl) hS0 ?hy47_2 ?rest47_2
  case hy47_2 => (intro u hu; (try dsimp only at hu); go_simp; first | done | with_reducible rfl)
  (try simp only [Act.put, List.setIfInBounds_toArray, List.set_cons_zero, List.set_cons_succ, List.getElem_toArray, List.getElem_cons_succ, List.getElem_cons_zero])
  refine upTo_take2 (i := 3) (v := ?v47_3) rfl (by kernel_rfl) (by kernel_rfl) (by kernel_rfl) rfl (fun _ _ _ h => h) (by rfl) hS0 ?hy47_3 ?rest47_3
  case hy47_3 => (intro u hu; (try dsimp only at hu); go_simp; first | done | with_reducible rfl)
  (try simp only [Act.put, List.setIfInBounds_toArray, List.set_cons_zero, List.set_cons_succ, List.getElem_toArray, List.getElem_cons_succ, List.getElem_cons_zero])
  refine upTo_take2 (i := 4) (v := ?v47_4) rfl (by kernel_rfl) (by kernel_rfl) (by kernel_rfl) rfl (fun _ _ _ h => h) (by rfl) hS0 ?hy47_4 ?rest47_4
  case hy47_4 => (intro u hu; (try dsimp only at hu); go_simp; first | done | with_reducible rfl)
  (try simp only [Act.put, List.setIfInBounds_toArray, List.set_cons_zero, List.set_cons_succ, List.getElem_toArray, List.getElem_cons_succ, List.getElem_cons_zero])
  refine upTo_take2 (i := 5) (v := ?v47_5) rfl (by kernel_rfl) (by kernel_rfl) (by kernel_rfl) rfl (fun _ _ _ h => h) (by rfl) hS0 ?hy47_5 ?rest47_5
  case hy47_5 => (intro u hu; (try dsimp only at hu); go_simp; first | done | with_reducible rfl)
  (try simp only [Act.put, List.setIfInBounds_toArray, List.set_cons_zero, List.set_cons_succ, List.getElem_toArray, List.getElem_cons_succ, List.getElem_cons_zero])
  clear hS0 cx
  refine upTo_one (i := 1) (by kernel_rfl) rfl (fun K hK => ?_)
  go_simp
  refine (hlg _ (HP5.out.below ((Below.refl _ w5).drew))).mono ?_
  rintro e w6 ⟨la, lc, rfl, hev6, hb6⟩
  have HP6 : Hid (OneL w w6 b gb [(cb, 26, c.vals)] X G) := HP5.out.below ⟨hb6.os, hb6.tape, hb6.output, hb6.size, hb6.block⟩
  have HE6 : Hid (EvAt w6 la X.log) := hev6
  clear hev6 hb6 hlg
  refine hK.out _ _ (fun _ => HP6.out.ml.blk.cell 0) ?_
  clear hK K
  (try simp only [Act.put, List.setIfInBounds_toArray, List.set_cons_zero, List.set_cons_succ, List.getElem_toArray, List.getElem_cons_succ, List.getElem_cons_zero])
  refine upTo_one (i := 6) (by kernel_rfl) rfl (fun K hK => ?_)
  go_simp
  refine (hso _ HP6.out).mono ?_
  rintro e w7 ⟨sg7, rfl, hev7, hb7⟩
  have HP7 : Hid (OneL w w7 b gb [(cb, 26, c.vals)] X G) := HP6.out.below hb7
  have HE7 : Hid (EvAt w7 (some ⟨sg7, 0, none⟩) X.log) := hev7
  have HE7' : Hid (EvAt w7 la X.log) := HE6.out.below' hb7
  clear hev7 hb7 hso HE6
  refine hK.out _ _ (fun _ => HP7.out.ml.blk.cell 0) ?_
  clear hK K
  (try simp only [Act.put, List.setIfInBounds_toArray, List.set_cons_zero, List.set_cons_succ, List.getElem_toArray, List.getElem_cons_succ, List.getElem_cons_zero])
  refine upTo_one (i := 7) (by kernel_rfl) rfl (fun K hK => ?_)
  go_simp
  refine (same_eq X.log la (some ⟨sg7, 0, none⟩) lc X.log.length w7 HE7'.out HE7.out (by have := HE.out.1.length_eq; omega)).mono ?_
  rintro e w8 ⟨rfl, m8, hm8⟩
  have HP8 : Hid (OneL w w8 b gb [(cb, 26, c.vals)] X G) := by show OneL _ _ _ _ _ _ _; rw [hm8]; exact HP7.out.below (bdrewN (Below.refl _ _) m8)
  clear hm8 HE7 HE7' HP7 HP6 HP5
  refine hK.out _ _ (fun _ => HP8.out.ml.blk.cell 0) ?_
  clear hK K
  (try simp only [Act.put, List.setIfInBounds_toArray, List.set_cons_zero, List.set_cons_succ, List.getElem_toArray, List.getElem_cons_succ, List.getElem_cons_zero])
  refine upTo_one (i := 8) (by kernel_rfl) rfl (fun K hK => ?_)
  go_simp
  refine hK.out _ _ (fun _ => HP8.out.ml.blk.cell 0) ?_
  clear hK K
  (try simp only [Act.put, List.setIfInBounds_toArray, List.set_cons_zero, List.set_cons_succ, List.getElem_toArray, List.getElem_cons_succ, List.getElem_cons_zero])
  refine upTo_done (by kernel_rfl) ?_
  go_upto_region 12 with fail
  have cx : w8.cell? ⟨gb, 1, none⟩ = some (.slice G.da G.aside.length G.dc) := HP8.out.ml.blk.cell 1
  refine upTo_region (fun u : World => u.cell? ⟨gb, 1, none⟩ = some (.slice G.da G.aside.length G.dc)) 8 8 rfl (by kernel_rfl) ?_
  have hS0 : (fun u : World => u.cell? ⟨gb, 1, none⟩ = some (.slice G.da G.aside.length G.dc)) w8.drew := cx
  refine upTo_take2 (i := 0) (v := ?v48_0) rfl (by kernel_rfl) (by kernel_rfl) (by kernel_rfl) rfl (fun _ _ _ h => h) (by rfl) hS0 ?hy48_0 ?rest48_0
  case hy48_0 => (intro u hu; (try dsimp only at hu); go_simp; first | done | with_reducible rfl)
  (try simp only [Act.put, List.setIfInBounds_toArray, List.set_cons_zero, List.set_cons_succ, List.getElem_toArray, List.getElem_cons_succ, List.getElem_cons_zero])
  refine upTo_take2 (i := 2) (v := ?v48_2) rfl (by kernel_rfl) (by kernel_rfl) (by kernel_rfl) rfl (fun _ _ _ h => h) (by rfl) hS0 ?hy48_2 ?rest48_2
  case hy48_2 => (intro u hu; (try dsimp only at hu); go_simp; first | done | with_reducible rfl)
  (try simp only [Act.put, List.setIfInBounds_toArray, List.set_cons_zero, List.set_cons_succ, List.getElem_toArray, List.getElem_cons_succ, List.getElem_cons_zero])
  refine upTo_take2 (i := 3) (v := ?v48_3) rfl (by kernel_rfl) (by kernel_rfl) (by kernel_rfl) rfl (fun _ _ _ h => h) (by rfl) hS0 ?hy48_3 ?rest48_3
  case hy48_3 => (intro u hu; (try dsimp only at hu); go_simp; first | done | with_reducible rfl)
  (try simp only [Act.put, List.setIfInBounds_toArray, List.set_cons_zero, List.set_cons_succ, List.getElem_toArray, List.getElem_cons_succ, List.getElem_cons_zero])
  refine upTo_take2 (i := 4) (v := ?v48_4) rfl (by kernel_rfl) (by kernel_rfl) (by kernel_rfl) rfl (fun _ _ _ h => h) (by rfl) hS0 ?hy48_4 ?rest48_4
  case hy48_4 => (intro u hu; (try dsimp only at hu); go_simp; first | done | with_reducible rfl)
  (try simp only [Act.put, List.setIfInBounds_toArray, List.set_cons_zero, List.set_cons_succ, List.getElem_toArray, List.getElem_cons_succ, List.getElem_cons_zero])
  refine upTo_take2 (i := 5) (v := ?v48_5) rfl (by kernel_rfl) (by kernel_rfl) (by kernel_rfl) rfl (fun _ _ _ h => h) (by rfl) hS0 ?hy48_5 ?rest48_5
  case hy48_5 => (intro u hu; (try dsimp only at hu); go_simp; first | done | with_reducible rfl)
  (try simp only [Act.put, List.setIfInBounds_toArray, List.set_cons_zero, List.set_cons_succ, List.getElem_toArray, List.getElem_cons_succ, List.getElem_cons_zero])
  clear hS0 cx
  refine upTo_one (i := 1) (by kernel_rfl) rfl (fun K hK => ?_)
  go_simp
  refine (hla _ (HP8.out.below ((Below.refl _ w8).drew))).mono ?_
  rintro e w9 ⟨da, dc, rfl, hev9, hb9⟩
  have HP9 : Hid (OneL w w9 b gb [(cb, 26, c.vals)] X G) := HP8.out.below ⟨hb9.os, hb9.tape, hb9.output, hb9.size, hb9.block⟩
  have HE9 : Hid (EvAt w9 da G.aside) := by show EvAt _ _ _; rw [← HE.out.2.2.1]; exact hev9
  have HL9 : Hid (X.late.length = G.aside.length) := by show _ = _; rw [HE.out.2.2.1]
  rw [HL9.out]
  clear hev9 hb9 hla HP8
  refine hK.out _ _ (fun _ => HP9.out.ml.blk.cell 1) ?_
  clear hK K
  (try simp only [Act.put, List.setIfInBounds_toArray, List.set_cons_zero, List.set_cons_succ, List.getElem_toArray, List.getElem_cons_succ, List.getElem_cons_zero])
  refine upTo_one (i := 6) (by kernel_rfl) rfl (fun K hK => ?_)
  go_simp
  refine (same_eq G.aside da G.da dc G.dc w9 HE9.out (EvAt.of_row (n := 0) HP9.out.ml.rd) (by omega)).mono ?_
  rintro e w10 ⟨rfl, m10, hm10⟩
  have HP10 : Hid (OneL w w10 b gb [(cb, 26, c.vals)] X G) := by show OneL _ _ _ _ _ _ _; rw [hm10]; exact HP9.out.below (bdrewN (Below.refl _ _) m10)
  clear hm10 HE9 HP9
  refine hK.out _ _ (fun _ => HP10.out.ml.blk.cell 1) ?_
  clear hK K
  (try simp only [Act.put, List.setIfInBounds_toArray, List.set_cons_zero, List.set_cons_succ, List.getElem_toArray, List.getElem_cons_succ, List.getElem_cons_zero])
  refine upTo_one (i := 7) (by kernel_rfl) rfl (fun K hK => ?_)
  go_simp
  refine hK.out _ _ (fun _ => HP10.out.ml.blk.cell 1) ?_
  clear hK K
  (try simp only [Act.put, List.setIfInBounds_toArray, List.set_cons_zero, List.set_cons_succ, List.getElem_toArray, List.getElem_cons_succ, List.getElem_cons_zero])
  refine upTo_done (by kernel_rfl) ?_
  have k0 := (HP10.out.bx (cb, 26, c.vals) (by simp)).cell 0
  have k1 := (HP10.out.bx (cb, 26, c.vals) (by simp)).cell 1
  have k2 := (HP10.out.bx (cb, 26, c.vals) (by simp)).cell 2
  have k3 := (HP10.out.bx (cb, 26, c.vals) (by simp)).cell 3
  have k4 := (HP10.out.bx (cb, 26, c.vals) (by simp)).cell 4
  have k5 := (HP10.out.bx (cb, 26, c.vals) (by simp)).cell 5
  simp only [Cfg.vals, List.getElem?_cons_zero, List.getElem?_cons_succ] at k0 k1 k2 k3 k4 k5
  go_wp2_with (go_at_call 18; refine (HFl.out _).mono ?_; rintro e w11 ⟨rfl, hb11⟩)
  go_ret
  exact ⟨rfl, HP10.out.bel.trans (hb11.mono HP10.out.bel.size)⟩
end Go.Proofs.YtghcololkgeoeaaDoor
