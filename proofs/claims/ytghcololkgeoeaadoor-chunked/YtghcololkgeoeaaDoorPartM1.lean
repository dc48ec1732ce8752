import Derived.Test.YtghcololkgeoeaaDoorPartM0
namespace Go.Proofs.YtghcololkgeoeaaDoor
open Go.RowKit
set_option linter.unusedVariables false
set_option linter.unusedSimpArgs false
attribute [local go_sem ↓] Go.wp_at_zero Go.wp_at_succ

theorem Two.more {w wr : World} {b b' : Nat} {bs : List (Nat × TypeId × List Value)} {X Y : Eng} (h : Two w wr b b' bs X Y) (t : TypeId) (l : List Value) : Two w (wr.alloc (.cells l.toArray t)) b b' ((wr.heap.size, t, l) :: bs) X Y := by
  have h' := h.below ((Below.refl _ wr).alloc (Nat.le_refl _) (.cells l.toArray t))
  refine ⟨h'.mx, h'.my, h'.dis, h'.bel, h'.fx, h'.fy, ?_, ?_, ?_⟩
  · intro x hx
    rcases List.mem_cons.1 hx with rfl | hx
    · exact blk_alloc _ _ _
    · exact h'.bx x hx
  · intro x hx
    rcases List.mem_cons.1 hx with rfl | hx
    · intro e; have := h.mx.fp_lt _ e; exact Nat.lt_irrefl _ this
    · exact h'.nx x hx
  · intro x hx
    rcases List.mem_cons.1 hx with rfl | hx
    · intro e; have := h.my.fp_lt _ e; exact Nat.lt_irrefl _ this
    · exact h'.ny x hx
theorem Two.less {w wr : World} {b b' : Nat} {bs bs' : List (Nat × TypeId × List Value)} {X Y : Eng} (h : Two w wr b b' bs X Y) (hs : ∀ x ∈ bs', x ∈ bs) : Two w wr b b' bs' X Y :=
  ⟨h.mx, h.my, h.dis, h.bel, h.fx, h.fy, fun x hx => h.bx x (hs x hx), fun x hx => h.nx x (hs x hx), fun x hx => h.ny x (hs x hx)⟩
theorem Twin.len {P : Nat → Prop} {X Y : Eng} (h : Twin P X Y) : X.srcs.length = Y.srcs.length := by obtain ⟨⟨N, R, h1, h2⟩, _⟩ := h; rw [h1.sim.n, h2.sim.n]
theorem Twin.weak {P Q : Nat → Prop} {X Y : Eng} (h : Twin P X Y) (hq : ∀ j, Q j → P j) : Twin Q X Y := ⟨h.lk, fun j p q hj => h.ln j p q (hq j hj)⟩
theorem ends_zero {l : List UInt8} (h : ends l = 0) : ∀ c ∈ l, c ≠ 10 := by
  intro c hc e
  unfold ends at h
  have := List.length_eq_zero_iff.1 h
  rw [List.filter_eq_nil_iff] at this
  exact this c hc (by simp [e])
def longB : ByteArray := ⟨(List.replicate 2001 (0 : UInt8)).toArray⟩
theorem longB_size : longB.size = 2001 := by show (List.replicate 2001 (0 : UInt8)).toArray.size = 2001; rw [List.size_toArray, List.length_replicate]
/-- a text of 2001 bytes is made -/
theorem long_made (w : World) : ∃ w', (Instr.makeSlice 76 (.int .i64 2001) (.int .i64 2001)).run Tryd.prog w = .ok (.slice (some ⟨w.heap.size, 0, none⟩) 2001 2001) w' ∧ (convert 76 9 (.slice (some ⟨w.heap.size, 0, none⟩) 2001 2001)).run Tryd.prog w' = .ok (.string longB) w' ∧ Below w.heap.size w w' := by
  obtain ⟨i0, hi0, hz0, hz1, hz2⟩ := info_parts Tryd.infoU8
  obtain ⟨w', h1, h2, h3⟩ := run_makeSlice_full (P := Tryd.prog) w 0 76 5 i0 (.int .u8 0) 1 Tryd.underlying76 hi0 hz0 hz1 .i64 .i64 2001 (by omega) (by rw [hz2]; omega) (by unfold maxLen; omega) (Nat.zero_le _)
  refine ⟨w', h1, ?_, (Below.refl _ w).grown h3 (Nat.le_refl _) (fun k e => by simp at e)⟩
  have e : (madeCells (Value.int .u8 0).cells (2001 * 1)).toList = bytesV (List.replicate 2001 0) := by
    rw [show (Value.int IntKind.u8 0).cells = #[Value.int .u8 0] from rfl, toList_madeCells_one, Nat.mul_one]
    unfold bytesV
    rw [List.map_replicate]
    rfl
  rw [e] at h2
  have hl : (List.replicate 2001 (0 : UInt8)).length = 2001 := List.length_replicate
  have := conv_line (a := some ⟨w.heap.size, 0, none⟩) (c := 2001) (l := List.replicate 2001 0) (by rw [hl]; exact h2)
  rw [hl] at this
  exact this
end Go.Proofs.YtghcololkgeoeaaDoor
namespace Go.Proofs.YtghcololkgeoeaaDoor
open Go.RowKit
set_option linter.unusedVariables false
set_option linter.unusedSimpArgs false
attribute [local go_sem ↓] Go.wp_at_zero Go.wp_at_succ

set_option maxRecDepth 100000 in
set_option maxHeartbeats 16000000 in
theorem chunked_walk (r : RawC) (s : Int) (text : ByteArray) (ca : Option Addr) (cc : Nat) (cuts : List Int) (between : ByteArray) (w : World) (hr : r.ok) (hs : I64 s) (htx : text.size ≤ maxLen) (hcu : IntsAt w ca cuts) (hcl : cuts.length ≤ 9000000000000000) (hbw : between.size ≤ maxLen) (htab : ∀ u, Below w.heap.size w u → tab10 u) :
    Calls Tryd.prog 8 #[.agg #[.int .i64 r.sources, .int .i64 r.slack, .int .i64 r.policy, .int .i64 r.room, .int .i64 r.idle, .int .i64 r.pattern], .int .i64 s, .string text, .slice ca cuts.length cc, .string between] w fun e w' => e = .returned (.bool true) ∧ Below w.heap.size w w' := by
  have HCu : Hid (IntsAt w ca cuts) := hcu
  have hft : ∀ u, Calls Tryd.prog 33 #[.string text, .int .i64 1900] u fun e w' => e = .returned (.string (firstB text 1900)) ∧ u = w' := fun u => first_any text 1900 u htx
  have hfb : ∀ u, Calls Tryd.prog 33 #[.string between, .int .i64 40] u fun e w' => e = .returned (.string (firstB between 40)) ∧ u = w' := fun u => first_any between 40 u hbw
  have hTs := firstB_size text 1900
  have hBs := firstB_size between 40
  generalize firstB text 1900 = T at *
  generalize firstB between 40 = B at *
  clear hcu htx hbw
  obtain ⟨c, HC⟩ := hex r.cfg
  have HOK : Hid c.ok := by show c.ok; rw [HC.out]; exact r.cfg_ok
  obtain ⟨n, hn⟩ : ∃ n : Nat, c.sources = n := ⟨c.sources.toNat, by have := HOK.out.1.1; omega⟩
  have HNn : Hid (c.sources = n) := hn
  have hn6 : 1 ≤ n ∧ n ≤ 6 := by have := HOK.out.1.1; have := HOK.out.1.2.1; omega
  have hcf : ∀ u, Below w.heap.size w u → Calls Tryd.prog 10 #[.agg #[.int .i64 r.sources, .int .i64 r.slack, .int .i64 r.policy, .int .i64 r.room, .int .i64 r.idle, .int .i64 r.pattern]] u fun e w' => e = .returned (.agg #[.int .i64 c.sources, .int .i64 c.slack, .int .i64 c.policy, .int .i64 c.room, .int .i64 c.idle, .string c.pat]) ∧ Below u.heap.size u w' := fun u hu => by rw [HC.out]; exact config_any r u hr (fun v hv => htab v (hu.trans (hv.mono hu.size)))
  have HMd : Hid (∀ u, Calls Tryd.prog 11 #[.agg #[.int .i64 c.sources, .int .i64 c.slack, .int .i64 c.policy, .int .i64 c.room, .int .i64 c.idle, .string c.pat]] u fun e w' => ∃ b sg sc p, e = .returned (.tuple #[.pointer (some ⟨b, 0, none⟩), .bool true]) ∧ MemX w' b (newEng c n sg sc p) ∧ (∀ k, some k ∈ (newEng c n sg sc p).fp b → u.heap.size ≤ k) ∧ Below u.heap.size u w') := fun u => made_any n c u hn HOK.out
  have HFl : Hid (∀ u, Calls Tryd.prog 18 #[.agg #[.int .i64 c.sources, .int .i64 c.slack, .int .i64 c.policy, .int .i64 c.room, .int .i64 c.idle, .string c.pat]] u fun e w' => e = .returned (.bool true) ∧ Below u.heap.size u w') := fun u => flows_true n c u hn HOK.out
  clear hn htab hr HC
  have H0 : Hid (Below w.heap.size w (w.alloc (.cells #[.int .i64 r.sources, .int .i64 r.slack, .int .i64 r.policy, .int .i64 r.room, .int .i64 r.idle, .int .i64 r.pattern] 23))) := (Below.refl _ _).alloc (Nat.le_refl _) _
  go_enter Tryd.func8, Tryd.ntmps8
  go_upto_region 2 with (go_at_call 10; refine (hcf _ H0.out).mono ?_; rintro e w1 ⟨rfl, hb1⟩)
  have HB1 : Hid (Below w.heap.size w w1) := H0.out.trans (hb1.mono (by simp))
  clear hcf hb1 H0
  obtain ⟨w2, HW2⟩ := hex (w1.alloc (.cells c.vals.toArray 26))
  have hw2 : w1.alloc (.cells #[.int .i64 c.sources, .int .i64 c.slack, .int .i64 c.policy, .int .i64 c.room, .int .i64 c.idle, .string c.pat] 26) = w2 := HW2.out.symm
  rw [hw2]
  obtain ⟨cb, HCb⟩ := hex w1.heap.size
  have HC2 : Hid (Blk w2 cb 26 c.vals) := by show Blk _ _ _ _; rw [HW2.out, HCb.out]; exact blk_alloc _ _ _
  have HB2 : Hid (Below w.heap.size w w2) := by show Below _ _ _; rw [HW2.out]; exact HB1.out.alloc HB1.out.size _
  rw [← HCb.out]
  clear hw2 HW2 HCb HB1
  have k0 := (HC2.out).cell 0
  have k1 := (HC2.out).cell 1
  have k2 := (HC2.out).cell 2
  have k3 := (HC2.out).cell 3
  have k4 := (HC2.out).cell 4
  have k5 := (HC2.out).cell 5
  simp only [Cfg.vals, List.getElem?_cons_zero, List.getElem?_cons_succ] at k0 k1 k2 k3 k4 k5
  go_upto_region 3 with (go_at_call 11; refine (HMd.out _).mono ?_; rintro e w3 ⟨b, sg, scc, pv, rfl, hM, hf, hb⟩)
  have HM3 : Hid (MemX w3 b (newEng c n sg scc pv) ∧ (∀ k, some k ∈ (newEng c n sg scc pv).fp b → w2.heap.size ≤ k) ∧ Below w2.heap.size w2 w3) := ⟨hM, hf, hb⟩
  have HC3 : Hid (Blk w3 cb 26 c.vals) := HC2.out.below hb HC2.out.lt
  clear hM hf hb k0 k1 k2 k3 k4 k5
  have k0 := (HC3.out).cell 0
  have k1 := (HC3.out).cell 1
  have k2 := (HC3.out).cell 2
  have k3 := (HC3.out).cell 3
  have k4 := (HC3.out).cell 4
  have k5 := (HC3.out).cell 5
  simp only [Cfg.vals, List.getElem?_cons_zero, List.getElem?_cons_succ] at k0 k1 k2 k3 k4 k5
  go_upto_region 4 with (go_at_call 11; refine (HMd.out _).mono ?_; rintro e w4 ⟨b', sg', scc', pv', rfl, hM, hf, hb⟩)
  obtain ⟨bs, HBs⟩ := hex [(cb, 26, c.vals)]
  have HK4 : Hid (Two w w4 b b' bs (newEng c n sg scc pv) (newEng c n sg' scc' pv')) := by
    refine Two.start HB2.out ?_ HM3.out.1 HM3.out.2.1 HM3.out.2.2 hM hf hb
    rw [HBs.out]
    intro x hx
    simp only [List.mem_cons, List.not_mem_nil, or_false] at hx
    subst hx
    exact HC2.out
  clear hM hf hb k0 k1 k2 k3 k4 k5 HC2 HC3 HB2 HMd HM3
  have k0 := (HK4.out.bx (cb, 26, c.vals) (HBs.out ▸ by simp)).cell 0
  have k1 := (HK4.out.bx (cb, 26, c.vals) (HBs.out ▸ by simp)).cell 1
  have k2 := (HK4.out.bx (cb, 26, c.vals) (HBs.out ▸ by simp)).cell 2
  have k3 := (HK4.out.bx (cb, 26, c.vals) (HBs.out ▸ by simp)).cell 3
  have k4 := (HK4.out.bx (cb, 26, c.vals) (HBs.out ▸ by simp)).cell 4
  have k5 := (HK4.out.bx (cb, 26, c.vals) (HBs.out ▸ by simp)).cell 5
  simp only [Cfg.vals, List.getElem?_cons_zero, List.getElem?_cons_succ] at k0 k1 k2 k3 k4 k5
  have hjx : ∀ u, Two w u b b' bs (newEng c n sg scc pv) (newEng c n sg' scc' pv') → Calls Tryd.prog 12 #[.pointer (some ⟨b, 0, none⟩), .agg #[.int .i64 c.sources, .int .i64 c.slack, .int .i64 c.policy, .int .i64 c.room, .int .i64 c.idle, .string c.pat]] u fun e w' => e = .returned (.bool true) ∧ ∃ M X, Like M X (joinSeq (newRef c n none 0 0) n) ∧ lineOf X = lineOf (newEng c n sg scc pv) ∧ X.srcs.length = n ∧ Two w w' b b' bs X (newEng c n sg' scc' pv') := fun u hu => by
    refine (joined_seq b n c (newEng c n sg scc pv) (newRef c n none 0 0) u hu.mx (new_like HNn.out HOK.out) HNn.out hn6.2 (by show (List.replicate n zP).length = n; simp)).mono ?_
    rintro e w' ⟨he, M, Y, h1, h2, h3, hev⟩
    exact ⟨he, M, Y, h1, h2, h3, hu.evoX hev⟩
  go_upto_region 7 with (go_at_call 12; refine (hjx _ HK4.out).mono ?_; rintro e w5 ⟨rfl, M5, X5, hl5, hi5, hn5, hk5⟩)
  have HK5 : Hid (Two w w5 b b' bs X5 (newEng c n sg' scc' pv')) := hk5
  have HL5 : Hid (Like M5 X5 (joinSeq (newRef c n none 0 0) n) ∧ lineOf X5 = lineOf (newEng c n sg scc pv) ∧ X5.srcs.length = n) := ⟨hl5, hi5, hn5⟩
  clear hjx hk5 hl5 hi5 hn5 k0 k1 k2 k3 k4 k5 HK4
  have k0 := (HK5.out.bx (cb, 26, c.vals) (HBs.out ▸ by simp)).cell 0
  have k1 := (HK5.out.bx (cb, 26, c.vals) (HBs.out ▸ by simp)).cell 1
  have k2 := (HK5.out.bx (cb, 26, c.vals) (HBs.out ▸ by simp)).cell 2
  have k3 := (HK5.out.bx (cb, 26, c.vals) (HBs.out ▸ by simp)).cell 3
  have k4 := (HK5.out.bx (cb, 26, c.vals) (HBs.out ▸ by simp)).cell 4
  have k5 := (HK5.out.bx (cb, 26, c.vals) (HBs.out ▸ by simp)).cell 5
  simp only [Cfg.vals, List.getElem?_cons_zero, List.getElem?_cons_succ] at k0 k1 k2 k3 k4 k5
  have hjy : ∀ u, Two w u b b' bs X5 (newEng c n sg' scc' pv') → Calls Tryd.prog 12 #[.pointer (some ⟨b', 0, none⟩), .agg #[.int .i64 c.sources, .int .i64 c.slack, .int .i64 c.policy, .int .i64 c.room, .int .i64 c.idle, .string c.pat]] u fun e w' => e = .returned (.bool true) ∧ ∃ M Y, Like M Y (joinSeq (newRef c n none 0 0) n) ∧ lineOf Y = lineOf (newEng c n sg' scc' pv') ∧ Y.srcs.length = n ∧ Two w w' b b' bs X5 Y := fun u hu => by
    refine (joined_seq b' n c (newEng c n sg' scc' pv') (newRef c n none 0 0) u hu.my (new_like HNn.out HOK.out) HNn.out hn6.2 (by show (List.replicate n zP).length = n; simp)).mono ?_
    rintro e w' ⟨he, M, Y, h1, h2, h3, hev⟩
    exact ⟨he, M, Y, h1, h2, h3, hu.evoY hev⟩
  go_upto_region 8 with (go_at_call 12; refine (hjy _ HK5.out).mono ?_; rintro e w6 ⟨rfl, M6, Y6, hl6, hi6, hn6', hk6⟩)
  have HK6 : Hid (Two w w6 b b' bs X5 Y6) := hk6
  have HT6 : Hid (Twin (fun _ => True) X5 Y6) := twin_of HL5.out.1 hl6 (HL5.out.2.1.trans ((new_lines _ _ _ _ _ _ _ _ _).trans hi6.symm))
  have HLX : Hid (X5.srcs.length = n) := HL5.out.2.2
  clear hjy hk6 hl6 hi6 hn6' k0 k1 k2 k3 k4 k5 HK5 HL5
  have k0 := (HK6.out.bx (cb, 26, c.vals) (HBs.out ▸ by simp)).cell 0
  simp only [Cfg.vals, List.getElem?_cons_zero] at k0
  have hpk : ∀ u, Calls Tryd.prog 23 #[.int .i64 s, .int .i64 c.sources] u fun e w' => e = .returned (.int .i64 (pk s c.sources)) ∧ u = w' := fun u => pick_any _ _ u hs (by rw [HNn.out]; omega) (by rw [HNn.out]; omega)
  have hpr := pk_range (c := s) (n := c.sources) (by rw [HNn.out]; omega)
  obtain ⟨k, hk⟩ : ∃ k : Nat, pk s c.sources = k := ⟨(pk s c.sources).toNat, by omega⟩
  have hkn : k < n := by have := HNn.out; omega
  rw [hk] at hpk
  go_upto_region 11 with (go_at_call 23; refine (hpk _).mono ?_; rintro e w' ⟨rfl, rfl⟩)
  clear hpk hpr hk hs
  go_upto_region 12 with (go_at_call 33; refine (hft _).mono ?_; rintro e w' ⟨rfl, rfl⟩)
  clear hft
  have HT7 : Hid (Twin (fun j => j = k) X5 Y6) := HT6.out.weak (fun _ _ => trivial)
  rw [HNn.out] at k0
  by_cases hn1 : 1 < n
  · have hn1' : (1 : Int) < (n : Int) := by omega
    go_upto_region 14 with (go_at_call 33; refine (hfb _).mono ?_; rintro e w' ⟨rfl, rfl⟩)
    clear hfb
    have hln : ∀ u, Calls Tryd.prog 34 #[.string B] u fun e w' => e = .returned (.int .i64 (ends B.data.toList)) ∧ w' = u := fun u => lines_any B u (by omega)
    by_cases he : ends B.data.toList = 0
    · rw [he] at hln
      have HEz : Hid (ends B.data.toList = 0) := he
      clear he
      obtain ⟨j, HJ⟩ := hex ((k + 1) % n)
      have hjn : j < n := by rw [HJ.out]; exact Nat.mod_lt _ (by omega)
      have hjk : j ≠ k := by
        rw [HJ.out]
        by_cases e : k + 1 = n
        · rw [e, Nat.mod_self]; omega
        · rw [Nat.mod_eq_of_lt (by omega)]; omega
      have hk1 : IntKind.i64.wrap ((k : Int) + 1) = (k : Int) + 1 := by rw [IntKind.wrap_i64]; omega
      have htm : ((k : Int) + 1).tmod (n : Int) = (j : Int) := by rw [Int.tmod_eq_emod_of_nonneg (by omega), HJ.out]; rfl
      have hwj : IntKind.i64.wrap (j : Int) = (j : Int) := by rw [IntKind.wrap_i64]; omega
      have hnz : ((n : Int) == 0) = false := by rw [beq_eq_false_iff_ne]; omega
      have hnz' : (n : Int) ≠ 0 := by omega
      clear HJ
      have hfy : ∀ u, Two w u b b' bs X5 Y6 → Calls Tryd.prog 35 #[.pointer (some ⟨b', 0, none⟩), .int .i64 j, .string B] u fun e w' => ∃ f, e = .returned (.tuple #[.agg #[.int .i64 (FedN.good f), .int .i64 (FedN.refused f), .int .i64 (FedN.bad f)], .int .i64 0]) ∧ ∃ Y', Twin (fun j => j = k) X5 Y' ∧ Two w w' b b' bs X5 Y' := fun u hu => by
        obtain ⟨N, R, h1, h2⟩ := HT6.out.lk
        refine (xfeed_run N b' Y6 R j B u hu.my h2 (by omega) (by rw [← HT6.out.len, HLX.out]; exact hjn)).mono ?_
        rintro e w' ⟨f, Z, tr, he, hr, hev⟩
        exact ⟨f, he, Z, runs_between (runX_runs hr) hjk (ends_zero HEz.out) HT7.out, hu.evoY hev⟩
      go_upto_region 15 with (go_at_call 34; refine (hln _).mono ?_; rintro e w' ⟨rfl, rfl⟩)
      clear hln
      go_upto_region 16 with (go_at_call 35; refine (hfy _ HK6.out).mono ?_; rintro e u1 ⟨f1, rfl, Y8, ht8, hk8⟩)
      have HT8 : Hid (Twin (fun j => j = k) X5 Y8) := ht8
      have HKa : Hid (Two w (u1.alloc (.cells #[.int .i64 f1.good, .int .i64 f1.refused, .int .i64 f1.bad] 71)) b b' bs X5 Y8) := hk8.below ((Below.refl _ _).alloc (Nat.le_refl _) _)
      clear ht8 hk8 hfy hk1 htm hwj hnz hnz' k0
      generalize u1.alloc (.cells #[.int .i64 f1.good, .int .i64 f1.refused, .int .i64 f1.bad] 71) = u2 at *
      go_upto_region 18 with fail
      have hfx : ∀ u, Two w u b b' bs X5 Y8 → Calls Tryd.prog 35 #[.pointer (some ⟨b, 0, none⟩), .int .i64 k, .string T] u fun e w' => ∃ f, e = .returned (.tuple #[.agg #[.int .i64 (FedN.good f), .int .i64 (FedN.refused f), .int .i64 (FedN.bad f)], .int .i64 0]) ∧ ∃ X', Runs k T.data.toList ⟨0, 0, 0⟩ X5 f X' ∧ Two w w' b b' bs X' Y8 := fun u hu => by
        obtain ⟨N, R, h1, h2⟩ := HT8.out.lk
        refine (xfeed_run N b X5 R k T u hu.mx h1 (by omega) (by rw [HLX.out]; exact hkn)).mono ?_
        rintro e w' ⟨f, Z, tr, he, hr, hev⟩
        exact ⟨f, he, Z, runX_runs hr, hu.evoX hev⟩
      go_upto_region 19 with (go_at_call 35; refine (hfx _ HKa.out).mono ?_; rintro e v1 ⟨f, rfl, X7, hr7, hk7⟩)
      have HR7 : Hid (Runs k T.data.toList ⟨0, 0, 0⟩ X5 f X7) := hr7
      have HK7 : Hid (Two w v1 b b' bs X7 Y8) := hk7
      clear hfx hr7 hk7
      obtain ⟨v2, HWv2⟩ := hex (v1.alloc (.cells (FedN.vals f).toArray 71))
      obtain ⟨fb, HBfb⟩ := hex v1.heap.size
      have hwv2 : v1.alloc (.cells #[.int .i64 f.good, .int .i64 f.refused, .int .i64 f.bad] 71) = v2 := HWv2.out.symm
      have HK8 : Hid (Two w v2 b b' ((fb, 71, FedN.vals f) :: bs) X7 Y8) := by show Two _ _ _ _ _ _ _; rw [HWv2.out, HBfb.out]; exact HK7.out.more 71 (FedN.vals f)
      rw [hwv2, ← HBfb.out]
      clear hwv2 HWv2 HBfb
      have hpc : ∀ u, Two w u b b' ((fb, 71, FedN.vals f) :: bs) X7 Y8 → Calls Tryd.prog 36 #[.pointer (some ⟨b', 0, none⟩), .int .i64 k, .string T, .slice ca cuts.length cc] u fun e w' => ∃ Y', e = .returned (.tuple #[.agg #[.int .i64 (FedN.good f), .int .i64 (FedN.refused f), .int .i64 (FedN.bad f)], .bool true]) ∧ Twin (fun j => j = k) X7 Y' ∧ Two w w' b b' ((fb, 71, FedN.vals f) :: bs) X7 Y' := fun u hu => by
        obtain ⟨N, R, h1, h2⟩ := HT8.out.lk
        refine (pieces_any b' k Y8 T ca cc cuts w u hu.my ⟨N, R, h2⟩ hTs (by rw [← HT8.out.len, HLX.out]; exact hkn) hu.bel hu.fy HCu.out hcl).mono ?_
        rintro e w' ⟨g, he, Y', hr, hev⟩
        obtain ⟨hfg, ht⟩ := twin_runs (P := fun j => j = k) rfl HT8.out HR7.out hr
        rw [← hfg] at he
        exact ⟨Y', he, ht, hu.evoY hev⟩
      go_upto_region 20 with (go_at_call 36; refine (hpc _ HK8.out).mono ?_; rintro e v3 ⟨Y9, rfl, ht9, hk9⟩)
      have HT9 : Hid (Twin (fun j => j = k) X7 Y9) := ht9
      have HK9 : Hid (Two w v3 b b' ((fb, 71, FedN.vals f) :: bs) X7 Y9) := hk9
      clear hpc ht9 hk9 HK8
      obtain ⟨v4, HWv4⟩ := hex (v3.alloc (.cells (FedN.vals f).toArray 71))
      obtain ⟨gb, HBgb⟩ := hex v3.heap.size
      have hwv4 : v3.alloc (.cells #[.int .i64 f.good, .int .i64 f.refused, .int .i64 f.bad] 71) = v4 := HWv4.out.symm
      have HK10 : Hid (Two w v4 b b' ((gb, 71, FedN.vals f) :: (fb, 71, FedN.vals f) :: bs) X7 Y9) := by show Two _ _ _ _ _ _ _; rw [HWv4.out, HBgb.out]; exact HK9.out.more 71 (FedN.vals f)
      rw [hwv4, ← HBgb.out]
      clear hwv4 HWv4 HBgb
      have x0 := (HK10.out.bx (fb, 71, FedN.vals f) (by simp)).cell 0
      have x1 := (HK10.out.bx (fb, 71, FedN.vals f) (by simp)).cell 1
      have x2 := (HK10.out.bx (fb, 71, FedN.vals f) (by simp)).cell 2
      have z0 := (HK10.out.bx (gb, 71, FedN.vals f) (by simp)).cell 0
      have z1 := (HK10.out.bx (gb, 71, FedN.vals f) (by simp)).cell 1
      have z2 := (HK10.out.bx (gb, 71, FedN.vals f) (by simp)).cell 2
      simp only [FedN.vals, List.getElem?_cons_zero, List.getElem?_cons_succ] at x0 x1 x2 z0 z1 z2
      have hcn := runs_cnt HR7.out (j := 0) (by unfold Cnt; simp)
      unfold Cnt at hcn
      have hTl : T.data.toList.length ≤ 1900 := by simpa using hTs
      have hv1 : IntKind.i64.wrap (f.good + f.refused) = f.good + f.refused := by rw [IntKind.wrap_i64]; omega
      have hen : f.good + f.refused + f.bad = (ends T.data.toList : Int) := by have := runs_ends HR7.out (j := 0) (by unfold Cnt; simp); unfold tot at this; simp only at this; omega
      have hv2 : IntKind.i64.wrap (f.good + f.refused + f.bad) = (ends T.data.toList : Int) := by rw [hen, IntKind.wrap_i64]; have := ends_le T.data.toList; omega
      have hln : ∀ u, Calls Tryd.prog 34 #[.string T] u fun e w' => e = .returned (.int .i64 (ends T.data.toList)) ∧ w' = u := fun u => lines_any T u (by omega)
      clear hcn hTl hen
      go_upto_region 20 with fail
      go_quiet (first | (go_at_call 34; refine Calls.quiet_of_same (hln _)))
      clear hln x0 x1 x2 z0 z1 z2 hv1 hv2
      have HK11 : Hid (Two w (v4.drewN nq) b b' bs X7 Y9) := (HK10.out.below (bdrewN (Below.refl _ _) nq)).less (fun x hx => by simp [hx])
      generalize v4.drewN nq = v5 at *
      obtain ⟨v6, hmk, hcv, hb6⟩ := long_made v5
      have HK12 : Hid (Two w v6 b b' bs X7 Y9) := HK11.out.below hb6
      have hfl : ∀ u, Two w u b b' bs X7 Y9 → Calls Tryd.prog 35 #[.pointer (some ⟨b, 0, none⟩), .int .i64 k, .string longB] u fun e w' => e = .returned (.tuple #[.agg #[.int .i64 0, .int .i64 0, .int .i64 0], .int .i64 9]) ∧ Two w w' b b' bs X7 Y9 := fun u hu => (xfeed_long b k longB u (by rw [longB_size]; omega)).mono fun e w' ⟨he, hb⟩ => ⟨he, hu.below hb⟩
      generalize longB = LQ at *
      go_upto_region 23 with (go_at_call 35; refine (hfl _ HK12.out).mono ?_; rintro e v7 ⟨rfl, hk13⟩)
      have HK13 : Hid (Two w (v7.alloc (.cells #[.int .i64 0, .int .i64 0, .int .i64 0] 71)) b b' bs X7 Y9) := hk13.below ((Below.refl _ _).alloc (Nat.le_refl _) _)
      clear hmk hcv hb6 hfl hk13 HK11 HK12
      generalize v7.alloc (.cells #[.int .i64 0, .int .i64 0, .int .i64 0] 71) = v8 at *
      have k0 := (HK13.out.bx (cb, 26, c.vals) (HBs.out ▸ by simp)).cell 0
      simp only [Cfg.vals, List.getElem?_cons_zero] at k0
      have hfn : ∀ u, Two w u b b' bs X7 Y9 → Calls Tryd.prog 35 #[.pointer (some ⟨b, 0, none⟩), .int .i64 c.sources, .string ByteArray.empty] u fun e w' => e = .returned (.tuple #[.agg #[.int .i64 0, .int .i64 0, .int .i64 0], .int .i64 3]) ∧ Two w w' b b' bs X7 Y9 := fun u hu => (xfeed_none b X7 c.sources ByteArray.empty u hu.mx (by decide) (by rw [runs_len HR7.out, HLX.out, HNn.out]; omega)).mono fun e w' ⟨he, hb⟩ => ⟨he, hu.below hb⟩
      go_upto_region 24 with (go_at_call 35; refine (hfn _ HK13.out).mono ?_; rintro e v9 ⟨rfl, hk14⟩)
      have HK14 : Hid (Two w (v9.alloc (.cells #[.int .i64 0, .int .i64 0, .int .i64 0] 71)) b b' bs X7 Y9) := hk14.below ((Below.refl _ _).alloc (Nat.le_refl _) _)
      clear hfn hk14 HK13 k0
      generalize v9.alloc (.cells #[.int .i64 0, .int .i64 0, .int .i64 0] 71) = v10 at *
      have k0 := (HK14.out.bx (cb, 26, c.vals) (HBs.out ▸ by simp)).cell 0
      simp only [Cfg.vals, List.getElem?_cons_zero] at k0
      have hal : ∀ u, Two w u b b' bs X7 Y9 → Calls Tryd.prog 32 #[.pointer (some ⟨b, 0, none⟩), .pointer (some ⟨b', 0, none⟩), .int .i64 c.sources] u fun e w' => e = .returned (.bool true) ∧ Two w w' b b' bs X7 Y9 := fun u hu => by
        rw [HNn.out]
        exact (alike_true b b' n X7 Y9 u hu.mx hu.my HT9.out hn6.2).mono fun e w' ⟨he, hb⟩ => ⟨he, hu.below hb⟩
      go_wp2_with (first
        | (go_at_call 32; refine (hal _ HK14.out).mono ?_; rintro e w16 ⟨rfl, hv6⟩; have k0 := (hv6.bx (cb, 26, c.vals) (HBs.out ▸ by simp)).cell 0; have k1 := (hv6.bx (cb, 26, c.vals) (HBs.out ▸ by simp)).cell 1; have k2 := (hv6.bx (cb, 26, c.vals) (HBs.out ▸ by simp)).cell 2; have k3 := (hv6.bx (cb, 26, c.vals) (HBs.out ▸ by simp)).cell 3; have k4 := (hv6.bx (cb, 26, c.vals) (HBs.out ▸ by simp)).cell 4; have k5 := (hv6.bx (cb, 26, c.vals) (HBs.out ▸ by simp)).cell 5; simp only [Cfg.vals, List.getElem?_cons_zero, List.getElem?_cons_succ] at k0 k1 k2 k3 k4 k5)
        | (go_at_call 18; refine (HFl.out _).mono ?_; rintro e v7 ⟨rfl, hb7⟩))
      go_ret
      exact ⟨rfl, hv6.bel.trans (hb7.mono hv6.bel.size)⟩
    · have he1 : ((ends B.data.toList : Int) == 0) = false := by rw [beq_eq_false_iff_ne]; omega
      have he2 : ¬ (ends B.data.toList : Int) = 0 := by omega
      clear he k0
      generalize (ends B.data.toList) = eb at *
      go_upto_region 15 with (go_at_call 34; refine (hln _).mono ?_; rintro e w' ⟨rfl, rfl⟩)
      clear hln
      go_upto_region 18 with fail
      have hfx : ∀ u, Two w u b b' bs X5 Y6 → Calls Tryd.prog 35 #[.pointer (some ⟨b, 0, none⟩), .int .i64 k, .string T] u fun e w' => ∃ f, e = .returned (.tuple #[.agg #[.int .i64 (FedN.good f), .int .i64 (FedN.refused f), .int .i64 (FedN.bad f)], .int .i64 0]) ∧ ∃ X', Runs k T.data.toList ⟨0, 0, 0⟩ X5 f X' ∧ Two w w' b b' bs X' Y6 := fun u hu => by
        obtain ⟨N, R, h1, h2⟩ := HT7.out.lk
        refine (xfeed_run N b X5 R k T u hu.mx h1 (by omega) (by rw [HLX.out]; exact hkn)).mono ?_
        rintro e w' ⟨f, Z, tr, he, hr, hev⟩
        exact ⟨f, he, Z, runX_runs hr, hu.evoX hev⟩
      go_upto_region 19 with (go_at_call 35; refine (hfx _ HK6.out).mono ?_; rintro e v1 ⟨f, rfl, X7, hr7, hk7⟩)
      have HR7 : Hid (Runs k T.data.toList ⟨0, 0, 0⟩ X5 f X7) := hr7
      have HK7 : Hid (Two w v1 b b' bs X7 Y6) := hk7
      clear hfx hr7 hk7
      obtain ⟨v2, HWv2⟩ := hex (v1.alloc (.cells (FedN.vals f).toArray 71))
      obtain ⟨fb, HBfb⟩ := hex v1.heap.size
      have hwv2 : v1.alloc (.cells #[.int .i64 f.good, .int .i64 f.refused, .int .i64 f.bad] 71) = v2 := HWv2.out.symm
      have HK8 : Hid (Two w v2 b b' ((fb, 71, FedN.vals f) :: bs) X7 Y6) := by show Two _ _ _ _ _ _ _; rw [HWv2.out, HBfb.out]; exact HK7.out.more 71 (FedN.vals f)
      rw [hwv2, ← HBfb.out]
      clear hwv2 HWv2 HBfb
      have hpc : ∀ u, Two w u b b' ((fb, 71, FedN.vals f) :: bs) X7 Y6 → Calls Tryd.prog 36 #[.pointer (some ⟨b', 0, none⟩), .int .i64 k, .string T, .slice ca cuts.length cc] u fun e w' => ∃ Y', e = .returned (.tuple #[.agg #[.int .i64 (FedN.good f), .int .i64 (FedN.refused f), .int .i64 (FedN.bad f)], .bool true]) ∧ Twin (fun j => j = k) X7 Y' ∧ Two w w' b b' ((fb, 71, FedN.vals f) :: bs) X7 Y' := fun u hu => by
        obtain ⟨N, R, h1, h2⟩ := HT7.out.lk
        refine (pieces_any b' k Y6 T ca cc cuts w u hu.my ⟨N, R, h2⟩ hTs (by rw [← HT7.out.len, HLX.out]; exact hkn) hu.bel hu.fy HCu.out hcl).mono ?_
        rintro e w' ⟨g, he, Y', hr, hev⟩
        obtain ⟨hfg, ht⟩ := twin_runs (P := fun j => j = k) rfl HT7.out HR7.out hr
        rw [← hfg] at he
        exact ⟨Y', he, ht, hu.evoY hev⟩
      go_upto_region 20 with (go_at_call 36; refine (hpc _ HK8.out).mono ?_; rintro e v3 ⟨Y9, rfl, ht9, hk9⟩)
      have HT9 : Hid (Twin (fun j => j = k) X7 Y9) := ht9
      have HK9 : Hid (Two w v3 b b' ((fb, 71, FedN.vals f) :: bs) X7 Y9) := hk9
      clear hpc ht9 hk9 HK8
      obtain ⟨v4, HWv4⟩ := hex (v3.alloc (.cells (FedN.vals f).toArray 71))
      obtain ⟨gb, HBgb⟩ := hex v3.heap.size
      have hwv4 : v3.alloc (.cells #[.int .i64 f.good, .int .i64 f.refused, .int .i64 f.bad] 71) = v4 := HWv4.out.symm
      have HK10 : Hid (Two w v4 b b' ((gb, 71, FedN.vals f) :: (fb, 71, FedN.vals f) :: bs) X7 Y9) := by show Two _ _ _ _ _ _ _; rw [HWv4.out, HBgb.out]; exact HK9.out.more 71 (FedN.vals f)
      rw [hwv4, ← HBgb.out]
      clear hwv4 HWv4 HBgb
      have x0 := (HK10.out.bx (fb, 71, FedN.vals f) (by simp)).cell 0
      have x1 := (HK10.out.bx (fb, 71, FedN.vals f) (by simp)).cell 1
      have x2 := (HK10.out.bx (fb, 71, FedN.vals f) (by simp)).cell 2
      have z0 := (HK10.out.bx (gb, 71, FedN.vals f) (by simp)).cell 0
      have z1 := (HK10.out.bx (gb, 71, FedN.vals f) (by simp)).cell 1
      have z2 := (HK10.out.bx (gb, 71, FedN.vals f) (by simp)).cell 2
      simp only [FedN.vals, List.getElem?_cons_zero, List.getElem?_cons_succ] at x0 x1 x2 z0 z1 z2
      have hcn := runs_cnt HR7.out (j := 0) (by unfold Cnt; simp)
      unfold Cnt at hcn
      have hTl : T.data.toList.length ≤ 1900 := by simpa using hTs
      have hv1 : IntKind.i64.wrap (f.good + f.refused) = f.good + f.refused := by rw [IntKind.wrap_i64]; omega
      have hen : f.good + f.refused + f.bad = (ends T.data.toList : Int) := by have := runs_ends HR7.out (j := 0) (by unfold Cnt; simp); unfold tot at this; simp only at this; omega
      have hv2 : IntKind.i64.wrap (f.good + f.refused + f.bad) = (ends T.data.toList : Int) := by rw [hen, IntKind.wrap_i64]; have := ends_le T.data.toList; omega
      have hln : ∀ u, Calls Tryd.prog 34 #[.string T] u fun e w' => e = .returned (.int .i64 (ends T.data.toList)) ∧ w' = u := fun u => lines_any T u (by omega)
      clear hcn hTl hen
      go_upto_region 20 with fail
      go_quiet (first | (go_at_call 34; refine Calls.quiet_of_same (hln _)))
      clear hln x0 x1 x2 z0 z1 z2 hv1 hv2
      have HK11 : Hid (Two w (v4.drewN nq) b b' bs X7 Y9) := (HK10.out.below (bdrewN (Below.refl _ _) nq)).less (fun x hx => by simp [hx])
      generalize v4.drewN nq = v5 at *
      obtain ⟨v6, hmk, hcv, hb6⟩ := long_made v5
      have HK12 : Hid (Two w v6 b b' bs X7 Y9) := HK11.out.below hb6
      have hfl : ∀ u, Two w u b b' bs X7 Y9 → Calls Tryd.prog 35 #[.pointer (some ⟨b, 0, none⟩), .int .i64 k, .string longB] u fun e w' => e = .returned (.tuple #[.agg #[.int .i64 0, .int .i64 0, .int .i64 0], .int .i64 9]) ∧ Two w w' b b' bs X7 Y9 := fun u hu => (xfeed_long b k longB u (by rw [longB_size]; omega)).mono fun e w' ⟨he, hb⟩ => ⟨he, hu.below hb⟩
      generalize longB = LQ at *
      go_upto_region 23 with (go_at_call 35; refine (hfl _ HK12.out).mono ?_; rintro e v7 ⟨rfl, hk13⟩)
      have HK13 : Hid (Two w (v7.alloc (.cells #[.int .i64 0, .int .i64 0, .int .i64 0] 71)) b b' bs X7 Y9) := hk13.below ((Below.refl _ _).alloc (Nat.le_refl _) _)
      clear hmk hcv hb6 hfl hk13 HK11 HK12
      generalize v7.alloc (.cells #[.int .i64 0, .int .i64 0, .int .i64 0] 71) = v8 at *
      have k0 := (HK13.out.bx (cb, 26, c.vals) (HBs.out ▸ by simp)).cell 0
      simp only [Cfg.vals, List.getElem?_cons_zero] at k0
      have hfn : ∀ u, Two w u b b' bs X7 Y9 → Calls Tryd.prog 35 #[.pointer (some ⟨b, 0, none⟩), .int .i64 c.sources, .string ByteArray.empty] u fun e w' => e = .returned (.tuple #[.agg #[.int .i64 0, .int .i64 0, .int .i64 0], .int .i64 3]) ∧ Two w w' b b' bs X7 Y9 := fun u hu => (xfeed_none b X7 c.sources ByteArray.empty u hu.mx (by decide) (by rw [runs_len HR7.out, HLX.out, HNn.out]; omega)).mono fun e w' ⟨he, hb⟩ => ⟨he, hu.below hb⟩
      go_upto_region 24 with (go_at_call 35; refine (hfn _ HK13.out).mono ?_; rintro e v9 ⟨rfl, hk14⟩)
      have HK14 : Hid (Two w (v9.alloc (.cells #[.int .i64 0, .int .i64 0, .int .i64 0] 71)) b b' bs X7 Y9) := hk14.below ((Below.refl _ _).alloc (Nat.le_refl _) _)
      clear hfn hk14 HK13 k0
      generalize v9.alloc (.cells #[.int .i64 0, .int .i64 0, .int .i64 0] 71) = v10 at *
      have k0 := (HK14.out.bx (cb, 26, c.vals) (HBs.out ▸ by simp)).cell 0
      simp only [Cfg.vals, List.getElem?_cons_zero] at k0
      have hal : ∀ u, Two w u b b' bs X7 Y9 → Calls Tryd.prog 32 #[.pointer (some ⟨b, 0, none⟩), .pointer (some ⟨b', 0, none⟩), .int .i64 c.sources] u fun e w' => e = .returned (.bool true) ∧ Two w w' b b' bs X7 Y9 := fun u hu => by
        rw [HNn.out]
        exact (alike_true b b' n X7 Y9 u hu.mx hu.my HT9.out hn6.2).mono fun e w' ⟨he, hb⟩ => ⟨he, hu.below hb⟩
      go_wp2_with (first
        | (go_at_call 32; refine (hal _ HK14.out).mono ?_; rintro e w16 ⟨rfl, hv6⟩; have k0 := (hv6.bx (cb, 26, c.vals) (HBs.out ▸ by simp)).cell 0; have k1 := (hv6.bx (cb, 26, c.vals) (HBs.out ▸ by simp)).cell 1; have k2 := (hv6.bx (cb, 26, c.vals) (HBs.out ▸ by simp)).cell 2; have k3 := (hv6.bx (cb, 26, c.vals) (HBs.out ▸ by simp)).cell 3; have k4 := (hv6.bx (cb, 26, c.vals) (HBs.out ▸ by simp)).cell 4; have k5 := (hv6.bx (cb, 26, c.vals) (HBs.out ▸ by simp)).cell 5; simp only [Cfg.vals, List.getElem?_cons_zero, List.getElem?_cons_succ] at k0 k1 k2 k3 k4 k5)
        | (go_at_call 18; refine (HFl.out _).mono ?_; rintro e v7 ⟨rfl, hb7⟩))
      go_ret
      exact ⟨rfl, hv6.bel.trans (hb7.mono hv6.bel.size)⟩
  · have hn1' : ¬ (1 : Int) < (n : Int) := by omega
    go_upto_region 18 with fail
    clear k0 hfb
    have hfx : ∀ u, Two w u b b' bs X5 Y6 → Calls Tryd.prog 35 #[.pointer (some ⟨b, 0, none⟩), .int .i64 k, .string T] u fun e w' => ∃ f, e = .returned (.tuple #[.agg #[.int .i64 (FedN.good f), .int .i64 (FedN.refused f), .int .i64 (FedN.bad f)], .int .i64 0]) ∧ ∃ X', Runs k T.data.toList ⟨0, 0, 0⟩ X5 f X' ∧ Two w w' b b' bs X' Y6 := fun u hu => by
      obtain ⟨N, R, h1, h2⟩ := HT7.out.lk
      refine (xfeed_run N b X5 R k T u hu.mx h1 (by omega) (by rw [HLX.out]; exact hkn)).mono ?_
      rintro e w' ⟨f, Z, tr, he, hr, hev⟩
      exact ⟨f, he, Z, runX_runs hr, hu.evoX hev⟩
    go_upto_region 19 with (go_at_call 35; refine (hfx _ HK6.out).mono ?_; rintro e v1 ⟨f, rfl, X7, hr7, hk7⟩)
    have HR7 : Hid (Runs k T.data.toList ⟨0, 0, 0⟩ X5 f X7) := hr7
    have HK7 : Hid (Two w v1 b b' bs X7 Y6) := hk7
    clear hfx hr7 hk7
    obtain ⟨v2, HWv2⟩ := hex (v1.alloc (.cells (FedN.vals f).toArray 71))
    obtain ⟨fb, HBfb⟩ := hex v1.heap.size
    have hwv2 : v1.alloc (.cells #[.int .i64 f.good, .int .i64 f.refused, .int .i64 f.bad] 71) = v2 := HWv2.out.symm
    have HK8 : Hid (Two w v2 b b' ((fb, 71, FedN.vals f) :: bs) X7 Y6) := by show Two _ _ _ _ _ _ _; rw [HWv2.out, HBfb.out]; exact HK7.out.more 71 (FedN.vals f)
    rw [hwv2, ← HBfb.out]
    clear hwv2 HWv2 HBfb
    have hpc : ∀ u, Two w u b b' ((fb, 71, FedN.vals f) :: bs) X7 Y6 → Calls Tryd.prog 36 #[.pointer (some ⟨b', 0, none⟩), .int .i64 k, .string T, .slice ca cuts.length cc] u fun e w' => ∃ Y', e = .returned (.tuple #[.agg #[.int .i64 (FedN.good f), .int .i64 (FedN.refused f), .int .i64 (FedN.bad f)], .bool true]) ∧ Twin (fun j => j = k) X7 Y' ∧ Two w w' b b' ((fb, 71, FedN.vals f) :: bs) X7 Y' := fun u hu => by
      obtain ⟨N, R, h1, h2⟩ := HT7.out.lk
      refine (pieces_any b' k Y6 T ca cc cuts w u hu.my ⟨N, R, h2⟩ hTs (by rw [← HT7.out.len, HLX.out]; exact hkn) hu.bel hu.fy HCu.out hcl).mono ?_
      rintro e w' ⟨g, he, Y', hr, hev⟩
      obtain ⟨hfg, ht⟩ := twin_runs (P := fun j => j = k) rfl HT7.out HR7.out hr
      rw [← hfg] at he
      exact ⟨Y', he, ht, hu.evoY hev⟩
    go_upto_region 20 with (go_at_call 36; refine (hpc _ HK8.out).mono ?_; rintro e v3 ⟨Y9, rfl, ht9, hk9⟩)
    have HT9 : Hid (Twin (fun j => j = k) X7 Y9) := ht9
    have HK9 : Hid (Two w v3 b b' ((fb, 71, FedN.vals f) :: bs) X7 Y9) := hk9
    clear hpc ht9 hk9 HK8
    obtain ⟨v4, HWv4⟩ := hex (v3.alloc (.cells (FedN.vals f).toArray 71))
    obtain ⟨gb, HBgb⟩ := hex v3.heap.size
    have hwv4 : v3.alloc (.cells #[.int .i64 f.good, .int .i64 f.refused, .int .i64 f.bad] 71) = v4 := HWv4.out.symm
    have HK10 : Hid (Two w v4 b b' ((gb, 71, FedN.vals f) :: (fb, 71, FedN.vals f) :: bs) X7 Y9) := by show Two _ _ _ _ _ _ _; rw [HWv4.out, HBgb.out]; exact HK9.out.more 71 (FedN.vals f)
    rw [hwv4, ← HBgb.out]
    clear hwv4 HWv4 HBgb
    have x0 := (HK10.out.bx (fb, 71, FedN.vals f) (by simp)).cell 0
    have x1 := (HK10.out.bx (fb, 71, FedN.vals f) (by simp)).cell 1
    have x2 := (HK10.out.bx (fb, 71, FedN.vals f) (by simp)).cell 2
    have z0 := (HK10.out.bx (gb, 71, FedN.vals f) (by simp)).cell 0
    have z1 := (HK10.out.bx (gb, 71, FedN.vals f) (by simp)).cell 1
    have z2 := (HK10.out.bx (gb, 71, FedN.vals f) (by simp)).cell 2
    simp only [FedN.vals, List.getElem?_cons_zero, List.getElem?_cons_succ] at x0 x1 x2 z0 z1 z2
    have hcn := runs_cnt HR7.out (j := 0) (by unfold Cnt; simp)
    unfold Cnt at hcn
    have hTl : T.data.toList.length ≤ 1900 := by simpa using hTs
    have hv1 : IntKind.i64.wrap (f.good + f.refused) = f.good + f.refused := by rw [IntKind.wrap_i64]; omega
    have hen : f.good + f.refused + f.bad = (ends T.data.toList : Int) := by have := runs_ends HR7.out (j := 0) (by unfold Cnt; simp); unfold tot at this; simp only at this; omega
    have hv2 : IntKind.i64.wrap (f.good + f.refused + f.bad) = (ends T.data.toList : Int) := by rw [hen, IntKind.wrap_i64]; have := ends_le T.data.toList; omega
    have hln : ∀ u, Calls Tryd.prog 34 #[.string T] u fun e w' => e = .returned (.int .i64 (ends T.data.toList)) ∧ w' = u := fun u => lines_any T u (by omega)
    clear hcn hTl hen
    go_upto_region 20 with fail
    go_quiet (first | (go_at_call 34; refine Calls.quiet_of_same (hln _)))
    clear hln x0 x1 x2 z0 z1 z2 hv1 hv2
    have HK11 : Hid (Two w (v4.drewN nq) b b' bs X7 Y9) := (HK10.out.below (bdrewN (Below.refl _ _) nq)).less (fun x hx => by simp [hx])
    generalize v4.drewN nq = v5 at *
    obtain ⟨v6, hmk, hcv, hb6⟩ := long_made v5
    have HK12 : Hid (Two w v6 b b' bs X7 Y9) := HK11.out.below hb6
    have hfl : ∀ u, Two w u b b' bs X7 Y9 → Calls Tryd.prog 35 #[.pointer (some ⟨b, 0, none⟩), .int .i64 k, .string longB] u fun e w' => e = .returned (.tuple #[.agg #[.int .i64 0, .int .i64 0, .int .i64 0], .int .i64 9]) ∧ Two w w' b b' bs X7 Y9 := fun u hu => (xfeed_long b k longB u (by rw [longB_size]; omega)).mono fun e w' ⟨he, hb⟩ => ⟨he, hu.below hb⟩
    generalize longB = LQ at *
    go_upto_region 23 with (go_at_call 35; refine (hfl _ HK12.out).mono ?_; rintro e v7 ⟨rfl, hk13⟩)
    have HK13 : Hid (Two w (v7.alloc (.cells #[.int .i64 0, .int .i64 0, .int .i64 0] 71)) b b' bs X7 Y9) := hk13.below ((Below.refl _ _).alloc (Nat.le_refl _) _)
    clear hmk hcv hb6 hfl hk13 HK11 HK12
    generalize v7.alloc (.cells #[.int .i64 0, .int .i64 0, .int .i64 0] 71) = v8 at *
    have k0 := (HK13.out.bx (cb, 26, c.vals) (HBs.out ▸ by simp)).cell 0
    simp only [Cfg.vals, List.getElem?_cons_zero] at k0
    have hfn : ∀ u, Two w u b b' bs X7 Y9 → Calls Tryd.prog 35 #[.pointer (some ⟨b, 0, none⟩), .int .i64 c.sources, .string ByteArray.empty] u fun e w' => e = .returned (.tuple #[.agg #[.int .i64 0, .int .i64 0, .int .i64 0], .int .i64 3]) ∧ Two w w' b b' bs X7 Y9 := fun u hu => (xfeed_none b X7 c.sources ByteArray.empty u hu.mx (by decide) (by rw [runs_len HR7.out, HLX.out, HNn.out]; omega)).mono fun e w' ⟨he, hb⟩ => ⟨he, hu.below hb⟩
    go_upto_region 24 with (go_at_call 35; refine (hfn _ HK13.out).mono ?_; rintro e v9 ⟨rfl, hk14⟩)
    have HK14 : Hid (Two w (v9.alloc (.cells #[.int .i64 0, .int .i64 0, .int .i64 0] 71)) b b' bs X7 Y9) := hk14.below ((Below.refl _ _).alloc (Nat.le_refl _) _)
    clear hfn hk14 HK13 k0
    generalize v9.alloc (.cells #[.int .i64 0, .int .i64 0, .int .i64 0] 71) = v10 at *
    have k0 := (HK14.out.bx (cb, 26, c.vals) (HBs.out ▸ by simp)).cell 0
    simp only [Cfg.vals, List.getElem?_cons_zero] at k0
    have hal : ∀ u, Two w u b b' bs X7 Y9 → Calls Tryd.prog 32 #[.pointer (some ⟨b, 0, none⟩), .pointer (some ⟨b', 0, none⟩), .int .i64 c.sources] u fun e w' => e = .returned (.bool true) ∧ Two w w' b b' bs X7 Y9 := fun u hu => by
      rw [HNn.out]
      exact (alike_true b b' n X7 Y9 u hu.mx hu.my HT9.out hn6.2).mono fun e w' ⟨he, hb⟩ => ⟨he, hu.below hb⟩
    go_wp2_with (first
      | (go_at_call 32; refine (hal _ HK14.out).mono ?_; rintro e w16 ⟨rfl, hv6⟩; have k0 := (hv6.bx (cb, 26, c.vals) (HBs.out ▸ by simp)).cell 0; have k1 := (hv6.bx (cb, 26, c.vals) (HBs.out ▸ by simp)).cell 1; have k2 := (hv6.bx (cb, 26, c.vals) (HBs.out ▸ by simp)).cell 2; have k3 := (hv6.bx (cb, 26, c.vals) (HBs.out ▸ by simp)).cell 3; have k4 := (hv6.bx (cb, 26, c.vals) (HBs.out ▸ by simp)).cell 4; have k5 := (hv6.bx (cb, 26, c.vals) (HBs.out ▸ by simp)).cell 5; simp only [Cfg.vals, List.getElem?_cons_zero, List.getElem?_cons_succ] at k0 k1 k2 k3 k4 k5)
      | (go_at_call 18; refine (HFl.out _).mono ?_; rintro e v7 ⟨rfl, hb7⟩))
    go_ret
    exact ⟨rfl, hv6.bel.trans (hb7.mono hv6.bel.size)⟩
end Go.Proofs.YtghcololkgeoeaaDoor
