import Derived.Test.YtghcololkgeoeaaDoorPartL0
namespace Go.Proofs.YtghcololkgeoeaaDoor
open Go.RowKit
set_option linter.unusedVariables false
set_option linter.unusedSimpArgs false
attribute [local go_sem ↓] Go.wp_at_zero Go.wp_at_succ

set_option maxRecDepth 100000 in
set_option maxHeartbeats 16000000 in
theorem push_led (n b gb : Nat) (c : Cfg) (A : Int) (E : Ev) (bs : List (Nat × TypeId × List Value)) (X : Eng) (G : LG) (R : Ref) (w0 w : World) (h : OneL w0 w b gb bs X G) (hk : Kp n c X G R) (hn : c.sources = n) (h6 : n ≤ 6) :
    Calls Tryd.prog 43 #[.pointer (some ⟨gb, 0, none⟩), .pointer (some ⟨b, 0, none⟩), .agg #[.int .i64 c.sources, .int .i64 c.slack, .int .i64 c.policy, .int .i64 c.room, .int .i64 c.idle, .string c.pat], .int .i64 A, .agg #[.int .i64 E.src, .int .i64 E.seq, .int .i64 E.ts, .int .i64 E.kind, .int .i64 E.val]] w fun e w' => e = .returned (.bool true) ∧ ∃ X' G', OneL w0 w' b gb bs X' G' ∧ ∃ R', Kp n c X' G' R' := by
  obtain ⟨j0, hj0, hy0, hy1, hy2⟩ := info_parts Tryd.infoEv
  obtain ⟨N, hl⟩ := hk.lk
  obtain ⟨zr, R', hR⟩ := pushesR_some R A E
  obtain ⟨T, HTt⟩ := hex (R.tell A)
  have hso : ∀ u, MemX u b X → Calls Tryd.prog 28 #[.pointer (some ⟨b, 0, none⟩), .int .i64 A] u fun e w' => e = .returned (.tuple #[.agg #[.bool T.inn, .bool T.idle, .int .i64 T.mark, .int .i64 T.n, .int .i64 T.last], .int .i64 T.err]) ∧ Below u.heap.size u w' := fun u hu => by
    have := xsource_any b X A hl.sane u hu
    rw [tell_same hl.sim A, ← HTt.out] at this
    exact this
  have hmk : ∀ u, MemX u b X → Calls Tryd.prog 13 #[.pointer (some ⟨b, 0, none⟩)] u fun e w' => e = .returned (.int .i64 R.merged) ∧ u = w' := fun u hu => by rw [← hl.sim.merged]; exact xmark_any b X u hu
  have hto : ∀ u, MemX u b X → Calls Tryd.prog 68 #[.pointer (some ⟨b, 0, none⟩), .agg #[.int .i64 c.sources, .int .i64 c.slack, .int .i64 c.policy, .int .i64 c.room, .int .i64 c.idle, .string c.pat]] u fun e w' => e = .returned (.int .i64 R.all.length) ∧ Below u.heap.size u w' := fun u hu => total_any b n c X R u hu hl hn hk.n h6
  have hla : ∀ u, MemX u b X → Calls Tryd.prog 22 #[.pointer (some ⟨b, 0, none⟩)] u fun e w' => ∃ (a : Option Addr) (c : Nat), e = .returned (.slice a R.aside.length c) ∧ Below u.heap.size u w' := fun u hu => by
    rw [← hl.sim.late]
    exact (xlate_any b X u hu hl.sane.late).mono fun e w' ⟨a, c, he, _, hb⟩ => ⟨a, c, he, hb⟩
  have HPu : Hid (∀ u bs', OneL w0 u b gb bs' X G → Calls Tryd.prog 31 #[.pointer (some ⟨b, 0, none⟩), .int .i64 A, .agg #[.int .i64 E.src, .int .i64 E.seq, .int .i64 E.ts, .int .i64 E.kind, .int .i64 E.val]] u fun e w' => ∃ X', e = .returned (.int .i64 zr) ∧ Like (N + 2) X' R' ∧ X'.srcs.length = n ∧ OneL w0 w' b gb bs' X' G) := fun u bs' hu => by
    refine (xpushes_rel A E hl u hu.mx).mono ?_
    rintro e w' ⟨z, X', he, hP, hev⟩
    obtain ⟨hz, hl'⟩ := pushes_agree hl hP hR
    exact ⟨X', by rw [he, hz], hl', (pushesX_grow hP).n.trans hk.n, hu.evoX hev⟩
  have HLd0 : Hid _ := pushesR_led hR
  have HKp : Hid (Kp n c X G R) := hk
  have HNn : Hid (c.sources = n) := hn
  have HPo : Hid (0 ≤ R.c.policy ∧ R.c.policy ≤ 2) := by have := hl.good.fits; show _ ∧ _; omega
  have HBn : Hid (R.all.length ≤ 200 ∧ R.aside.length ≤ 200) := ⟨hl.good.all, hl.good.aside⟩
  have HRcc : Hid (R.c = c) := hk.c
  have HRn : Hid (R.srcs.length = n) := by show _ = _; rw [← like_n hl]; exact hk.n
  have HM0 : Hid (MemX w b X) := h.mx
  have HRcX : Hid (∀ M X', Like M X' R' → R'.c = c) := by
    intro M X' hl'
    obtain ⟨w2, b2, hh⟩ : ∃ z R2, PushesR R A E z R2 := ⟨_, _, hR⟩
    rcases hR with ⟨_, _, h⟩ | ⟨i, r, _, _, ⟨_, _, h⟩ | ⟨_, _, _, h⟩ | ⟨_, _, _, hi, ma, mc, qa, qc, R5, hP, h⟩⟩
    · rw [h]; exact hk.c
    · rw [h]; exact hk.c
    · rw [h]; exact hk.c
    · rw [h, (settled_keep R5).2.2.2]
      rcases hP with ⟨_, aa, ac, rfl⟩ | ⟨_, _, da, dc, rfl⟩ | ⟨_, _, rfl⟩
      · exact hk.c
      · exact hk.c
      · exact hk.c
  clear hR hk hl hn
  obtain ⟨w2, HW2⟩ := hex ((w.alloc (.cells c.vals.toArray 26)).alloc (.cells E.vals.toArray 37))
  obtain ⟨cb, HCb⟩ := hex w.heap.size
  obtain ⟨eb, HEb⟩ := hex (w.heap.size + 1)
  have HP2 : Hid (OneL w0 w2 b gb ((eb, 37, E.vals) :: (cb, 26, c.vals) :: bs) X G) := by
    show OneL _ _ _ _ _ _ _
    have := (h.more 26 c.vals).more 37 E.vals
    rw [HW2.out, HEb.out, HCb.out]
    simpa using this
  have HEw : Hid (w0.heap.size ≤ eb) := by show _ ≤ _; have := h.bel.size; have := HEb.out; omega
  have HBl : Hid (∀ x ∈ bs, x.1 < cb) := fun x hx => by rw [HCb.out]; exact (h.bx x hx).lt
  have HCE : Hid (eb = cb + 1) := by show _ = _; rw [HEb.out, HCb.out]
  have HE2l : Hid (eb < w2.heap.size) := (HP2.out.bx (eb, 37, E.vals) (by simp)).lt
  have hw2 : (w.alloc (.cells #[.int .i64 c.sources, .int .i64 c.slack, .int .i64 c.policy, .int .i64 c.room, .int .i64 c.idle, .string c.pat] 26)).alloc (.cells #[.int .i64 E.src, .int .i64 E.seq, .int .i64 E.ts, .int .i64 E.kind, .int .i64 E.val] 37) = w2 := HW2.out.symm
  clear h
  go_enter Tryd.func43, Tryd.ntmps43
  go_upto_region 1 with fail
  rw [← HEb.out, ← HCb.out]
  clear hw2 HW2 HEb HCb
  go_upto_region 2 with (go_at_call 28; refine (hso _ HP2.out.mx).mono ?_; rintro e w3 ⟨rfl, hb3⟩)
  obtain ⟨w4, HW4⟩ := hex (w3.alloc (.cells [.bool T.inn, .bool T.idle, .int .i64 T.mark, .int .i64 T.n, .int .i64 T.last].toArray 60))
  obtain ⟨kb, HKb⟩ := hex w3.heap.size
  have hw4 : w3.alloc (.cells #[.bool T.inn, .bool T.idle, .int .i64 T.mark, .int .i64 T.n, .int .i64 T.last] 60) = w4 := HW4.out.symm
  have HP4 : Hid (OneL w0 w4 b gb ((eb, 37, E.vals) :: (kb, 60, [.bool T.inn, .bool T.idle, .int .i64 T.mark, .int .i64 T.n, .int .i64 T.last]) :: (cb, 26, c.vals) :: bs) X G) := by
    show OneL _ _ _ _ _ _ _
    have := (HP2.out.below hb3).more 60 [.bool T.inn, .bool T.idle, .int .i64 T.mark, .int .i64 T.n, .int .i64 T.last]
    rw [HW4.out, HKb.out]
    refine this.less (fun x hx => ?_)
    simp only [List.mem_cons] at hx ⊢
    rcases hx with hx | hx | hx | hx
    · exact Or.inr (Or.inl hx)
    · exact Or.inl hx
    · exact Or.inr (Or.inr (Or.inl hx))
    · exact Or.inr (Or.inr (Or.inr hx))
  have HEn : Hid (∀ x ∈ (kb, 60, [.bool T.inn, .bool T.idle, .int .i64 T.mark, .int .i64 T.n, .int .i64 T.last]) :: (cb, 26, c.vals) :: bs, x.1 ≠ eb) := by
    intro x hx
    have h1 := HE2l.out
    have h2 := hb3.size
    have h3 := HKb.out
    have h4 := HCE.out
    simp only [List.mem_cons] at hx
    rcases hx with rfl | rfl | hx
    · show kb ≠ eb; omega
    · show cb ≠ eb; omega
    · have := HBl.out x hx; omega
  rw [hw4, ← HKb.out]
  clear hw4 HW4 HKb hb3 HP2 hso HE2l HCE HBl
  go_upto_region 3 with (go_at_call 13; refine (hmk _ HP4.out.mx).mono ?_; rintro e w' ⟨rfl, rfl⟩)
  clear hmk
  have k0 := (HP4.out.bx (cb, 26, c.vals) (by simp)).cell 0
  have k1 := (HP4.out.bx (cb, 26, c.vals) (by simp)).cell 1
  have k2 := (HP4.out.bx (cb, 26, c.vals) (by simp)).cell 2
  have k3 := (HP4.out.bx (cb, 26, c.vals) (by simp)).cell 3
  have k4 := (HP4.out.bx (cb, 26, c.vals) (by simp)).cell 4
  have k5 := (HP4.out.bx (cb, 26, c.vals) (by simp)).cell 5
  simp only [Cfg.vals, List.getElem?_cons_zero, List.getElem?_cons_succ] at k0 k1 k2 k3 k4 k5
  go_upto_region 4 with (go_at_call 68; refine (hto _ HP4.out.mx).mono ?_; rintro e w5 ⟨rfl, hb5⟩)
  have HP5 : Hid (OneL w0 w5 b gb ((eb, 37, E.vals) :: (kb, 60, [.bool T.inn, .bool T.idle, .int .i64 T.mark, .int .i64 T.n, .int .i64 T.last]) :: (cb, 26, c.vals) :: bs) X G) := HP4.out.below hb5
  clear hb5 hto HP4 k0 k1 k2 k3 k4 k5
  go_upto_region 5 with (go_at_call 22; refine (hla _ HP5.out.mx).mono ?_; rintro e w6 ⟨la, lc, rfl, hb6⟩)
  have HP6 : Hid (OneL w0 w6 b gb ((eb, 37, E.vals) :: (kb, 60, [.bool T.inn, .bool T.idle, .int .i64 T.mark, .int .i64 T.n, .int .i64 T.last]) :: (cb, 26, c.vals) :: bs) X G) := HP5.out.below hb6
  clear hb6 hla HP5
  have e0 := (HP6.out.bx (eb, 37, E.vals) (by simp)).cell 0
  have e1 := (HP6.out.bx (eb, 37, E.vals) (by simp)).cell 1
  have e2 := (HP6.out.bx (eb, 37, E.vals) (by simp)).cell 2
  have e3 := (HP6.out.bx (eb, 37, E.vals) (by simp)).cell 3
  have e4 := (HP6.out.bx (eb, 37, E.vals) (by simp)).cell 4
  simp only [Ev.vals, List.getElem?_cons_zero, List.getElem?_cons_succ] at e0 e1 e2 e3 e4
  go_upto_region 6 with (go_at_call 31; refine (HPu.out _ _ HP6.out).mono ?_; rintro e v1 ⟨X', rfl, hL', hNx, hv1⟩)
  have HV1 : Hid (OneL w0 v1 b gb ((eb, 37, E.vals) :: (kb, 60, [.bool T.inn, .bool T.idle, .int .i64 T.mark, .int .i64 T.n, .int .i64 T.last]) :: (cb, 26, c.vals) :: bs) X' G) := hv1
  have HL' : Hid (Like (N + 2) X' R') := hL'
  have HNx : Hid (X'.srcs.length = n) := hNx
  have HRc : Hid (R'.c = c) := HRcX.out _ _ hL'
  clear hv1 hL' hNx HPu HP6 e0 e1 e2 e3 e4 HRcX
  have hto : ∀ u, MemX u b X' → Calls Tryd.prog 68 #[.pointer (some ⟨b, 0, none⟩), .agg #[.int .i64 c.sources, .int .i64 c.slack, .int .i64 c.policy, .int .i64 c.room, .int .i64 c.idle, .string c.pat]] u fun e w' => e = .returned (.int .i64 R'.all.length) ∧ Below u.heap.size u w' := fun u hu => total_any b n c X' R' u hu HL'.out HNn.out HNx.out h6
  have hla : ∀ u, MemX u b X' → Calls Tryd.prog 22 #[.pointer (some ⟨b, 0, none⟩)] u fun e w' => ∃ (a : Option Addr) (c : Nat), e = .returned (.slice a R'.aside.length c) ∧ Below u.heap.size u w' := fun u hu => by
    rw [← HL'.out.sim.late]
    exact (xlate_any b X' u hu HL'.out.sane.late).mono fun e w' ⟨a, c, he, _, hb⟩ => ⟨a, c, he, hb⟩
  have k0 := (HV1.out.bx (cb, 26, c.vals) (by simp)).cell 0
  have k1 := (HV1.out.bx (cb, 26, c.vals) (by simp)).cell 1
  have k2 := (HV1.out.bx (cb, 26, c.vals) (by simp)).cell 2
  have k3 := (HV1.out.bx (cb, 26, c.vals) (by simp)).cell 3
  have k4 := (HV1.out.bx (cb, 26, c.vals) (by simp)).cell 4
  have k5 := (HV1.out.bx (cb, 26, c.vals) (by simp)).cell 5
  simp only [Cfg.vals, List.getElem?_cons_zero, List.getElem?_cons_succ] at k0 k1 k2 k3 k4 k5
  go_upto_region 7 with (go_at_call 68; refine (hto _ HV1.out.mx).mono ?_; rintro e v2 ⟨rfl, hb2⟩)
  have HV2 : Hid (OneL w0 v2 b gb ((eb, 37, E.vals) :: (kb, 60, [.bool T.inn, .bool T.idle, .int .i64 T.mark, .int .i64 T.n, .int .i64 T.last]) :: (cb, 26, c.vals) :: bs) X' G) := HV1.out.below hb2
  clear hb2 hto HV1 k0 k1 k2 k3 k4 k5
  go_upto_region 8 with (go_at_call 22; refine (hla _ HV2.out.mx).mono ?_; rintro e w7 ⟨la', lc', rfl, hb7⟩)
  have HP7 : Hid (OneL w0 w7 b gb ((eb, 37, E.vals) :: (kb, 60, [.bool T.inn, .bool T.idle, .int .i64 T.mark, .int .i64 T.n, .int .i64 T.last]) :: (cb, 26, c.vals) :: bs) X' G) := HV2.out.below hb7
  clear hb7 hla HV2
  rcases HLd0.out with ⟨hz, hRR⟩ | ⟨hz, hst, i, r, hA, hr, hin, hsq, hld⟩
  · subst hRR
    have hz1 : (zr != 0) = true := by simpa using hz
    clear hz HLd0
    go_wp2
    go_ret
    exact ⟨rfl, X', G, HP7.out.less (fun x hx => by simp [hx]), R', ⟨⟨_, HL'.out⟩, HKp.out.all, HKp.out.aside, HKp.out.stl, HNx.out, HRc.out⟩⟩
  · have HLd : Hid _ := hld
    have HSt : Hid (Stl R') := hst
    subst hz
    subst hA
    have hTe : T = ⟨r.inn, R.isIdle i, R.mark i, (R.wait i).length, greatest r.seqs (-1), 0⟩ := by
      rw [HTt.out]
      unfold Ref.tell
      rw [if_neg (by omega), show (i : Int).toNat = i by omega, hr]
    have t0 : T.inn = true := by rw [hTe]; exact hin
    have t5 : T.err = 0 := by rw [hTe]
    have t4 : decide (E.seq ≤ T.last) = false := by rw [hTe]; simp; omega
    have t4' : ¬ E.seq ≤ T.last := by rw [hTe]; simp; omega
    have HT1 : Hid (T.idle = R.isIdle i) := by show _ = _; rw [hTe]
    have HT2 : Hid (T.mark = R.mark i) := by show _ = _; rw [hTe]
    clear hTe hr hin hsq hld hst HLd0 HTt
    have e0 := (HP7.out.bx (eb, 37, E.vals) (by simp)).cell 0
    have e1 := (HP7.out.bx (eb, 37, E.vals) (by simp)).cell 1
    have e2 := (HP7.out.bx (eb, 37, E.vals) (by simp)).cell 2
    have e3 := (HP7.out.bx (eb, 37, E.vals) (by simp)).cell 3
    have e4 := (HP7.out.bx (eb, 37, E.vals) (by simp)).cell 4
    simp only [Ev.vals, List.getElem?_cons_zero, List.getElem?_cons_succ] at e0 e1 e2 e3 e4
    have s0 := (HP7.out.bx (kb, 60, [.bool T.inn, .bool T.idle, .int .i64 T.mark, .int .i64 T.n, .int .i64 T.last]) (by simp)).cell 0
    have s1 := (HP7.out.bx (kb, 60, [.bool T.inn, .bool T.idle, .int .i64 T.mark, .int .i64 T.n, .int .i64 T.last]) (by simp)).cell 1
    have s2 := (HP7.out.bx (kb, 60, [.bool T.inn, .bool T.idle, .int .i64 T.mark, .int .i64 T.n, .int .i64 T.last]) (by simp)).cell 2
    have s3 := (HP7.out.bx (kb, 60, [.bool T.inn, .bool T.idle, .int .i64 T.mark, .int .i64 T.n, .int .i64 T.last]) (by simp)).cell 3
    have s4 := (HP7.out.bx (kb, 60, [.bool T.inn, .bool T.idle, .int .i64 T.mark, .int .i64 T.n, .int .i64 T.last]) (by simp)).cell 4
    simp only [List.getElem?_cons_zero, List.getElem?_cons_succ] at s0 s1 s2 s3 s4
    have k0 := (HP7.out.bx (cb, 26, c.vals) (by simp)).cell 0
    have k1 := (HP7.out.bx (cb, 26, c.vals) (by simp)).cell 1
    have k2 := (HP7.out.bx (cb, 26, c.vals) (by simp)).cell 2
    have k3 := (HP7.out.bx (cb, 26, c.vals) (by simp)).cell 3
    have k4 := (HP7.out.bx (cb, 26, c.vals) (by simp)).cell 4
    have k5 := (HP7.out.bx (cb, 26, c.vals) (by simp)).cell 5
    simp only [Cfg.vals, List.getElem?_cons_zero, List.getElem?_cons_succ] at k0 k1 k2 k3 k4 k5
    rw [t0] at s0
    cases hid : T.idle with
    | false =>
      rw [hid] at s1
      have hbd : R.bound i = T.mark := by unfold Ref.bound; rw [← HT1.out, hid, HT2.out]; simp
      clear hid
      go_upto_region 15 with fail
      have fe0 := (HP7.out.bx (eb, 37, E.vals) (by simp)).frozen 0
      go_upto_region 16 with fail
      obtain ⟨E1, HE1⟩ := hex ({ E with src := i } : Ev)
      have HP8 : Hid (OneL w0 (w7.setCell ⟨eb, 0, none⟩ (.int .i64 i)) b gb ((eb, 37, E1.vals) :: (kb, 60, [.bool T.inn, .bool T.idle, .int .i64 T.mark, .int .i64 T.n, .int .i64 T.last]) :: (cb, 26, c.vals) :: bs) X' G) := by
        have := HP7.out.set 0 (.int .i64 i) HEw.out HEn.out
        show OneL _ _ _ _ _ _ _
        rw [HE1.out]
        exact this
      clear fe0 e0 e1 e2 e3 e4 k0 k1 k2 k3 k4 k5 s0 s1 s2 s3 s4
      generalize w7.setCell ⟨eb, 0, none⟩ (.int .i64 i) = w8 at *
      have k0 := (HP8.out.bx (cb, 26, c.vals) (by simp)).cell 0
      have k1 := (HP8.out.bx (cb, 26, c.vals) (by simp)).cell 1
      have k2 := (HP8.out.bx (cb, 26, c.vals) (by simp)).cell 2
      have k3 := (HP8.out.bx (cb, 26, c.vals) (by simp)).cell 3
      have k4 := (HP8.out.bx (cb, 26, c.vals) (by simp)).cell 4
      have k5 := (HP8.out.bx (cb, 26, c.vals) (by simp)).cell 5
      simp only [Cfg.vals, List.getElem?_cons_zero, List.getElem?_cons_succ] at k0 k1 k2 k3 k4 k5
      have e0 := (HP8.out.bx (eb, 37, E1.vals) (by simp)).cell 0
      have e1 := (HP8.out.bx (eb, 37, E1.vals) (by simp)).cell 1
      have e2 := (HP8.out.bx (eb, 37, E1.vals) (by simp)).cell 2
      have e3 := (HP8.out.bx (eb, 37, E1.vals) (by simp)).cell 3
      have e4 := (HP8.out.bx (eb, 37, E1.vals) (by simp)).cell 4
      simp only [Ev.vals, List.getElem?_cons_zero, List.getElem?_cons_succ] at e0 e1 e2 e3 e4
      have he2 : E1.ts = E.ts := by rw [HE1.out]
      rw [he2] at e2
      clear he2
      by_cases hlt : E.ts < T.mark
      · have hlate : R.late i E = true := by unfold Ref.late; rw [hbd]; simpa using hlt
        have hld : decide (E.ts < T.mark) = true := by simpa using hlt
        have hp : R.c.policy = 0 ∨ R.c.policy = 1 ∨ R.c.policy = 2 := by have := HPo.out; omega
        rw [HRcc.out] at hp
        rcases hp with hp0 | hp1 | hp2
        · have hst : R.stays i E = false := by unfold Ref.stays; rw [hlate, HRcc.out, hp0]; decide
          obtain ⟨hal, has⟩ : R'.all = R.all ∧ R'.aside = R.aside := by
            rcases HLd.out with ⟨h, _, _⟩ | ⟨_, h, _⟩ | ⟨_, _, h1, h2⟩
            · rw [hst] at h; cases h
            · rw [HRcc.out, hp0] at h; cases h
            · exact ⟨h1, h2⟩
          have HAl : Hid (R'.all = R.all) := hal
          have HAs : Hid (R'.aside = R.aside) := has
          have hn1 : (R'.all.length : Int) = (R.all.length : Int) := by rw [HAl.out]
          have hn2 : (R'.aside.length : Int) = (R.aside.length : Int) := by rw [HAs.out]
          clear hal has hlate hst
          rw [hp0] at k2
          go_wp2
          go_ret
          exact ⟨rfl, X', G, HP8.out.less (fun x hx => by simp [hx]), R', ⟨⟨_, HL'.out⟩, HKp.out.all.trans HAl.out.symm, HKp.out.aside.trans HAs.out.symm, HSt.out, HNx.out, HRc.out⟩⟩
        · have hst : R.stays i E = false := by unfold Ref.stays; rw [hlate, HRcc.out, hp1]; decide
          obtain ⟨hal, has⟩ : R'.all = R.all ∧ R'.aside = R.aside ++ [R.taken i E] := by
            rcases HLd.out with ⟨h, _, _⟩ | ⟨_, _, h1, h2⟩ | ⟨_, h, _⟩
            · rw [hst] at h; cases h
            · exact ⟨h1, h2⟩
            · exact absurd (HRcc.out ▸ hp1 : R.c.policy = 1) h
          have HTk : Hid (E1 = R.taken i E) := by show _ = _; rw [HE1.out]; unfold Ref.taken Ref.lifts; rw [HRcc.out, hp1]; simp
          have HAl : Hid (R'.all = R.all) := hal
          have HAs : Hid (R'.aside = R.aside ++ [R.taken i E]) := has
          have hn1 : (R'.all.length : Int) = (R.all.length : Int) := by rw [HAl.out]
          have hn2 : (R'.aside.length : Int) = (R.aside.length : Int) + 1 := by rw [HAs.out]; simp
          have hgl : G.aside.length ≤ 200 := by rw [HKp.out.aside]; exact HBn.out.2
          have hwp : IntKind.i64.wrap ((R.aside.length : Int) + 1) = (R.aside.length : Int) + 1 := by rw [IntKind.wrap_i64]; have := HBn.out.2; omega
          clear hal has hlate hst
          rw [hp1] at k2
          go_upto_region 20 with fail
          obtain ⟨wq, HWq⟩ := hex w8
          rw [← HWq.out]
          have HPq : Hid (OneL w0 wq b gb ((eb, 37, E1.vals) :: (kb, 60, [.bool T.inn, .bool T.idle, .int .i64 T.mark, .int .i64 T.n, .int .i64 T.last]) :: (cb, 26, c.vals) :: bs) X' G) := by show OneL _ _ _ _ _ _ _; rw [HWq.out]; exact HP8.out
          clear HWq
          have HBx : Hid (Blk wq eb 37 E1.vals) := HPq.out.bx (eb, 37, E1.vals) (by simp)
          have HNe : Hid (¬ some eb ∈ G.fp gb) := HPq.out.ng (eb, 37, E1.vals) (by simp)
          have HH : Hid (MemL wq gb G) := HPq.out.ml
          have cx : wq.cell? ⟨gb, 1, none⟩ = some (.slice G.da G.aside.length G.dc) := HH.out.blk.cell 1
          have HRow : Hid (Row wq 37 5 G.da G.aside.length G.dc (evs G.aside)) := HH.out.rd
          refine upTo_region (fun u : World => u.cell? ⟨gb, 1, none⟩ = some (.slice G.da G.aside.length G.dc) ∧ u.cell? ⟨eb, 0, none⟩ = some (.int .i64 E1.src) ∧ u.cell? ⟨eb, 1, none⟩ = some (.int .i64 E1.seq) ∧ u.cell? ⟨eb, 2, none⟩ = some (.int .i64 E1.ts) ∧ u.cell? ⟨eb, 3, none⟩ = some (.int .i64 E1.kind) ∧ u.cell? ⟨eb, 4, none⟩ = some (.int .i64 E1.val)) 10 11 rfl (by kernel_rfl) ?_
          have hS0 : (fun u : World => u.cell? ⟨gb, 1, none⟩ = some (.slice G.da G.aside.length G.dc) ∧ u.cell? ⟨eb, 0, none⟩ = some (.int .i64 E1.src) ∧ u.cell? ⟨eb, 1, none⟩ = some (.int .i64 E1.seq) ∧ u.cell? ⟨eb, 2, none⟩ = some (.int .i64 E1.ts) ∧ u.cell? ⟨eb, 3, none⟩ = some (.int .i64 E1.kind) ∧ u.cell? ⟨eb, 4, none⟩ = some (.int .i64 E1.val)) wq.drew := ⟨cx, HBx.out.cell 0, HBx.out.cell 1, HBx.out.cell 2, HBx.out.cell 3, HBx.out.cell 4⟩
          refine upTo_take (i := 0) (v := ?v29_0) rfl (by kernel_rfl) (by kernel_rfl) (by kernel_rfl) (by kernel_rfl) (by rfl) (fun _ _ _ h => h) (by rfl) hS0 ?hy29_0 ?rest29_0
          case hy29_0 => (intro u hu; (try dsimp only at hu); go_simp; first | done | with_reducible rfl)
          (try simp only [Act.put, List.setIfInBounds_toArray, List.set_cons_zero, List.set_cons_succ, List.getElem_toArray, List.getElem_cons_succ, List.getElem_cons_zero])
          refine upTo_take (i := 1) (v := ?v29_1) rfl (by kernel_rfl) (by kernel_rfl) (by kernel_rfl) (by kernel_rfl) (by rfl) (fun _ _ _ h => h) (by rfl) hS0 ?hy29_1 ?rest29_1
          case hy29_1 => (intro u hu; (try dsimp only at hu); go_simp; first | done | with_reducible rfl)
          (try simp only [Act.put, List.setIfInBounds_toArray, List.set_cons_zero, List.set_cons_succ, List.getElem_toArray, List.getElem_cons_succ, List.getElem_cons_zero])
          refine upTo_take (i := 2) (v := ?v29_2) rfl (by kernel_rfl) (by kernel_rfl) (by kernel_rfl) (by kernel_rfl) (by rfl) (fun _ _ _ h => h) (by rfl) hS0 ?hy29_2 ?rest29_2
          case hy29_2 => (intro u hu; (try dsimp only at hu); go_simp; first | done | with_reducible rfl)
          (try simp only [Act.put, List.setIfInBounds_toArray, List.set_cons_zero, List.set_cons_succ, List.getElem_toArray, List.getElem_cons_succ, List.getElem_cons_zero])
          refine upTo_take (i := 3) (v := ?v29_3) rfl (by kernel_rfl) (by kernel_rfl) (by kernel_rfl) (by kernel_rfl) (by rfl) (fun _ _ _ h => h) (by rfl) hS0 ?hy29_3 ?rest29_3
          case hy29_3 => (intro u hu; (try dsimp only at hu); go_simp; first | done | with_reducible rfl)
          (try simp only [Act.put, List.setIfInBounds_toArray, List.set_cons_zero, List.set_cons_succ, List.getElem_toArray, List.getElem_cons_succ, List.getElem_cons_zero])
          refine upTo_take (i := 4) (v := ?v29_4) rfl (by kernel_rfl) (by kernel_rfl) (by kernel_rfl) (by kernel_rfl) (by rfl) (fun _ _ _ h => h) (by rfl) hS0 ?hy29_4 ?rest29_4
          case hy29_4 => (intro u hu; (try dsimp only at hu); go_simp; first | done | with_reducible rfl)
          (try simp only [Act.put, List.setIfInBounds_toArray, List.set_cons_zero, List.set_cons_succ, List.getElem_toArray, List.getElem_cons_succ, List.getElem_cons_zero])
          refine upTo_take (i := 5) (v := ?v29_5) rfl (by kernel_rfl) (by kernel_rfl) (by kernel_rfl) (by kernel_rfl) (by rfl) (fun _ _ _ h => h) (by rfl) hS0 ?hy29_5 ?rest29_5
          case hy29_5 => (intro u hu; (try dsimp only at hu); go_simp; first | done | with_reducible rfl)
          (try simp only [Act.put, List.setIfInBounds_toArray, List.set_cons_zero, List.set_cons_succ, List.getElem_toArray, List.getElem_cons_succ, List.getElem_cons_zero])
          refine upTo_one (i := 6) (by kernel_rfl) rfl (fun K hK => ?_)
          go_simp
          refine hK.out _ _ (fun _ => ⟨((HH.out.kept (below_kept ((Below.refl _ wq).alloc (Nat.le_refl _) _) (fun _ => False)) (fun _ _ e => e)).blk.cell 1), (HBx.out.alloc _).cell 0, (HBx.out.alloc _).cell 1, (HBx.out.alloc _).cell 2, (HBx.out.alloc _).cell 3, (HBx.out.alloc _).cell 4⟩) ?_
          clear hK K
          (try simp only [Act.put, List.setIfInBounds_toArray, List.set_cons_zero, List.set_cons_succ, List.getElem_toArray, List.getElem_cons_succ, List.getElem_cons_zero])
          refine upTo_one (i := 7) (by kernel_rfl) rfl (fun K hK => ?_)
          refine step_append_lies _ (by rfl) _ _ _ (by rfl) 0 37 j0 _ 5 40 Tryd.underlying32 hj0 hy0 hy1 hy2 rfl (by omega) (.slice G.da G.aside.length G.dc) G.aside.length (evs G.aside) (by rfl) (ownsRow_of_heap HRow.out (fun k hk => Below.heap_alloc _ _ _ hk))
            ⟨wq.heap.size, 0, none⟩ 1 1 E1.vals (by rfl) (by rfl) (World.news_of_block (cs := E1.vals.toArray) (t := 37) (fr := (0, 0)) (heap_alloc_new wq _)) (Ev.one E1)
            (by omega) (by unfold maxLen; omega) (by omega) (by omega) (wq.heap.size + 1) (by simp) ?_
          intro gg cap w1 hown1 hgrow hat hlt1
          have hb0 : Below wq.heap.size wq (wq.alloc (.cells E1.vals.toArray 37)).drew := ((Below.refl _ wq).alloc (Nat.le_refl _) _).drew
          obtain ⟨q0, hE⟩ := HH.out.appAsideE (cap := cap) hb0 hown1 hgrow hat
          obtain ⟨_, _, qk, _, _, _⟩ := HH.out.app (j := 2) hb0 rfl (by omega) hgrow hat
          have q4 := q0.frozen 1
          have HB1 : Hid (Blk w1 eb 37 E1.vals) := HBx.out.kept qk HNe.out
          have HE3 : Hid (EvoL wq gb G (w1.setCell ⟨gb, 1, none⟩ (.slice (some ⟨gg, 0, none⟩) (G.aside.length + 1) cap)) { G with aside := G.aside ++ [E1], da := some ⟨gg, 0, none⟩, dc := cap }) := hE
          clear hE qk
          refine hK.out _ _ (fun _ => ⟨q0.cell 1, HB1.out.cell 0, HB1.out.cell 1, HB1.out.cell 2, HB1.out.cell 3, HB1.out.cell 4⟩) ?_
          clear hK K hS0
          (try simp only [Act.put, List.setIfInBounds_toArray, List.set_cons_zero, List.set_cons_succ, List.getElem_toArray, List.getElem_cons_succ, List.getElem_cons_zero])
          refine upTo_one (i := 8) (by kernel_rfl) rfl (fun K hK => ?_)
          go_simp
          refine hK.out _ _ (fun _ => ⟨q0.cell 1, HB1.out.cell 0, HB1.out.cell 1, HB1.out.cell 2, HB1.out.cell 3, HB1.out.cell 4⟩) ?_
          clear hK K
          (try simp only [Act.put, List.setIfInBounds_toArray, List.set_cons_zero, List.set_cons_succ, List.getElem_toArray, List.getElem_cons_succ, List.getElem_cons_zero])
          refine upTo_one (i := 9) (by kernel_rfl) rfl (fun K hK => ?_)
          go_simp
          refine hK.out _ _ (fun _ => ⟨q0.cell 1, HB1.out.cell 0, HB1.out.cell 1, HB1.out.cell 2, HB1.out.cell 3, HB1.out.cell 4⟩) ?_
          clear hK K
          (try simp only [Act.put, List.setIfInBounds_toArray, List.set_cons_zero, List.set_cons_succ, List.getElem_toArray, List.getElem_cons_succ, List.getElem_cons_zero])
          have q5 := q0.cell 1
          simp only [List.getElem?_cons_succ, List.getElem?_cons_zero] at q5
          refine upTo_one (i := 10) (by kernel_rfl) rfl (fun K hK => ?_)
          go_simp
          refine hK.out _ _ (fun h => absurd rfl h) ?_
          clear hK K
          (try simp only [Act.put, List.setIfInBounds_toArray, List.set_cons_zero, List.set_cons_succ, List.getElem_toArray, List.getElem_cons_succ, List.getElem_cons_zero])
          refine upTo_done (by kernel_rfl) ?_
          have HPz : Hid (OneL w0 (w1.setCell ⟨gb, 1, none⟩ (.slice (some ⟨gg, 0, none⟩) (G.aside.length + 1) cap)) b gb bs X' { G with aside := G.aside ++ [E1], da := some ⟨gg, 0, none⟩, dc := cap }) := (HPq.out.evoL HE3.out).less (fun x hx => by simp [hx])
          clear q0 q4 q5 cx hown1 hgrow hat hlt1 hb0 HRow HB1 HE3
          generalize w1.setCell ⟨gb, 1, none⟩ (.slice (some ⟨gg, 0, none⟩) (G.aside.length + 1) cap) = wz at *
          go_wp2
          go_ret
          refine ⟨rfl, X', { G with aside := G.aside ++ [E1], da := some ⟨gg, 0, none⟩, dc := cap }, HPz.out, R', ⟨⟨_, HL'.out⟩, ?_, ?_, HSt.out, HNx.out, HRc.out⟩⟩
          · show G.all = _; rw [HAl.out, HKp.out.all]
          · show G.aside ++ [_] = _; rw [HAs.out, HKp.out.aside, ← HTk.out]
        · have hst : R.stays i E = true := by unfold Ref.stays; rw [HRcc.out, hp2]; simp
          obtain ⟨hal, has⟩ : R'.all = R.all ++ [R.taken i E] ∧ R'.aside = R.aside := by
            rcases HLd.out with ⟨_, h1, h2⟩ | ⟨h, _⟩ | ⟨h, _⟩
            · exact ⟨h1, h2⟩
            · rw [hst] at h; cases h
            · rw [hst] at h; cases h
          have HAl : Hid (R'.all = R.all ++ [R.taken i E]) := hal
          have HAs : Hid (R'.aside = R.aside) := has
          have hn1 : (R'.all.length : Int) = (R.all.length : Int) + 1 := by rw [HAl.out]; simp
          have hn2 : (R'.aside.length : Int) = (R.aside.length : Int) := by rw [HAs.out]
          have hgl : G.all.length ≤ 200 := by rw [HKp.out.all]; exact HBn.out.1
          have hwp : IntKind.i64.wrap ((R.all.length : Int) + 1) = (R.all.length : Int) + 1 := by rw [IntKind.wrap_i64]; have := HBn.out.1; omega
          clear hal has hst
          rw [hp2] at k2
          by_cases hms : E.ts < R.merged
          · obtain ⟨E2, HE2⟩ := hex ({ E1 with ts := R.merged } : Ev)
            have HTk : Hid (E2 = R.taken i E) := by show _ = _; rw [HE2.out, HE1.out]; unfold Ref.taken Ref.lifts; rw [HRcc.out, hp2, hlate]; simp [hms]
            have hmd : decide (E.ts < R.merged) = true := by simpa using hms
            have fe2 := (HP8.out.bx (eb, 37, E1.vals) (by simp)).frozen 2
            clear hlate
            go_upto_region 24 with fail
            have HP9 : Hid (OneL w0 (w8.setCell ⟨eb, 2, none⟩ (.int .i64 R.merged)) b gb ((eb, 37, E2.vals) :: (kb, 60, [.bool T.inn, .bool T.idle, .int .i64 T.mark, .int .i64 T.n, .int .i64 T.last]) :: (cb, 26, c.vals) :: bs) X' G) := by
              have := HP8.out.set 2 (.int .i64 R.merged) HEw.out HEn.out
              show OneL _ _ _ _ _ _ _
              rw [HE2.out]
              exact this
            clear fe2 e0 e1 e2 e3 e4
            generalize w8.setCell ⟨eb, 2, none⟩ (.int .i64 R.merged) = w9 at *
            go_upto_region 24 with fail
            obtain ⟨wq, HWq⟩ := hex w9
            rw [← HWq.out]
            have HPq : Hid (OneL w0 wq b gb ((eb, 37, E2.vals) :: (kb, 60, [.bool T.inn, .bool T.idle, .int .i64 T.mark, .int .i64 T.n, .int .i64 T.last]) :: (cb, 26, c.vals) :: bs) X' G) := by show OneL _ _ _ _ _ _ _; rw [HWq.out]; exact HP9.out
            clear HWq
            have HBx : Hid (Blk wq eb 37 E2.vals) := HPq.out.bx (eb, 37, E2.vals) (by simp)
            have HNe : Hid (¬ some eb ∈ G.fp gb) := HPq.out.ng (eb, 37, E2.vals) (by simp)
            have HH : Hid (MemL wq gb G) := HPq.out.ml
            have cx : wq.cell? ⟨gb, 0, none⟩ = some (.slice G.aa G.all.length G.ac) := HH.out.blk.cell 0
            have HRow : Hid (Row wq 37 5 G.aa G.all.length G.ac (evs G.all)) := HH.out.ra
            refine upTo_region (fun u : World => u.cell? ⟨gb, 0, none⟩ = some (.slice G.aa G.all.length G.ac) ∧ u.cell? ⟨eb, 0, none⟩ = some (.int .i64 E2.src) ∧ u.cell? ⟨eb, 1, none⟩ = some (.int .i64 E2.seq) ∧ u.cell? ⟨eb, 2, none⟩ = some (.int .i64 E2.ts) ∧ u.cell? ⟨eb, 3, none⟩ = some (.int .i64 E2.kind) ∧ u.cell? ⟨eb, 4, none⟩ = some (.int .i64 E2.val)) 10 11 rfl (by kernel_rfl) ?_
            have hS0 : (fun u : World => u.cell? ⟨gb, 0, none⟩ = some (.slice G.aa G.all.length G.ac) ∧ u.cell? ⟨eb, 0, none⟩ = some (.int .i64 E2.src) ∧ u.cell? ⟨eb, 1, none⟩ = some (.int .i64 E2.seq) ∧ u.cell? ⟨eb, 2, none⟩ = some (.int .i64 E2.ts) ∧ u.cell? ⟨eb, 3, none⟩ = some (.int .i64 E2.kind) ∧ u.cell? ⟨eb, 4, none⟩ = some (.int .i64 E2.val)) wq.drew := ⟨cx, HBx.out.cell 0, HBx.out.cell 1, HBx.out.cell 2, HBx.out.cell 3, HBx.out.cell 4⟩
            refine upTo_take (i := 0) (v := ?v30_0) rfl (by kernel_rfl) (by kernel_rfl) (by kernel_rfl) (by kernel_rfl) (by rfl) (fun _ _ _ h => h) (by rfl) hS0 ?hy30_0 ?rest30_0
            case hy30_0 => (intro u hu; (try dsimp only at hu); go_simp; first | done | with_reducible rfl)
            (try simp only [Act.put, List.setIfInBounds_toArray, List.set_cons_zero, List.set_cons_succ, List.getElem_toArray, List.getElem_cons_succ, List.getElem_cons_zero])
            refine upTo_take (i := 1) (v := ?v30_1) rfl (by kernel_rfl) (by kernel_rfl) (by kernel_rfl) (by kernel_rfl) (by rfl) (fun _ _ _ h => h) (by rfl) hS0 ?hy30_1 ?rest30_1
            case hy30_1 => (intro u hu; (try dsimp only at hu); go_simp; first | done | with_reducible rfl)
            (try simp only [Act.put, List.setIfInBounds_toArray, List.set_cons_zero, List.set_cons_succ, List.getElem_toArray, List.getElem_cons_succ, List.getElem_cons_zero])
            refine upTo_take (i := 2) (v := ?v30_2) rfl (by kernel_rfl) (by kernel_rfl) (by kernel_rfl) (by kernel_rfl) (by rfl) (fun _ _ _ h => h) (by rfl) hS0 ?hy30_2 ?rest30_2
            case hy30_2 => (intro u hu; (try dsimp only at hu); go_simp; first | done | with_reducible rfl)
            (try simp only [Act.put, List.setIfInBounds_toArray, List.set_cons_zero, List.set_cons_succ, List.getElem_toArray, List.getElem_cons_succ, List.getElem_cons_zero])
            refine upTo_take (i := 3) (v := ?v30_3) rfl (by kernel_rfl) (by kernel_rfl) (by kernel_rfl) (by kernel_rfl) (by rfl) (fun _ _ _ h => h) (by rfl) hS0 ?hy30_3 ?rest30_3
            case hy30_3 => (intro u hu; (try dsimp only at hu); go_simp; first | done | with_reducible rfl)
            (try simp only [Act.put, List.setIfInBounds_toArray, List.set_cons_zero, List.set_cons_succ, List.getElem_toArray, List.getElem_cons_succ, List.getElem_cons_zero])
            refine upTo_take (i := 4) (v := ?v30_4) rfl (by kernel_rfl) (by kernel_rfl) (by kernel_rfl) (by kernel_rfl) (by rfl) (fun _ _ _ h => h) (by rfl) hS0 ?hy30_4 ?rest30_4
            case hy30_4 => (intro u hu; (try dsimp only at hu); go_simp; first | done | with_reducible rfl)
            (try simp only [Act.put, List.setIfInBounds_toArray, List.set_cons_zero, List.set_cons_succ, List.getElem_toArray, List.getElem_cons_succ, List.getElem_cons_zero])
            refine upTo_take (i := 5) (v := ?v30_5) rfl (by kernel_rfl) (by kernel_rfl) (by kernel_rfl) (by kernel_rfl) (by rfl) (fun _ _ _ h => h) (by rfl) hS0 ?hy30_5 ?rest30_5
            case hy30_5 => (intro u hu; (try dsimp only at hu); go_simp; first | done | with_reducible rfl)
            (try simp only [Act.put, List.setIfInBounds_toArray, List.set_cons_zero, List.set_cons_succ, List.getElem_toArray, List.getElem_cons_succ, List.getElem_cons_zero])
            refine upTo_one (i := 6) (by kernel_rfl) rfl (fun K hK => ?_)
            go_simp
            refine hK.out _ _ (fun _ => ⟨((HH.out.kept (below_kept ((Below.refl _ wq).alloc (Nat.le_refl _) _) (fun _ => False)) (fun _ _ e => e)).blk.cell 0), (HBx.out.alloc _).cell 0, (HBx.out.alloc _).cell 1, (HBx.out.alloc _).cell 2, (HBx.out.alloc _).cell 3, (HBx.out.alloc _).cell 4⟩) ?_
            clear hK K
            (try simp only [Act.put, List.setIfInBounds_toArray, List.set_cons_zero, List.set_cons_succ, List.getElem_toArray, List.getElem_cons_succ, List.getElem_cons_zero])
            refine upTo_one (i := 7) (by kernel_rfl) rfl (fun K hK => ?_)
            refine step_append_lies _ (by rfl) _ _ _ (by rfl) 0 37 j0 _ 5 40 Tryd.underlying32 hj0 hy0 hy1 hy2 rfl (by omega) (.slice G.aa G.all.length G.ac) G.all.length (evs G.all) (by rfl) (ownsRow_of_heap HRow.out (fun k hk => Below.heap_alloc _ _ _ hk))
              ⟨wq.heap.size, 0, none⟩ 1 1 E2.vals (by rfl) (by rfl) (World.news_of_block (cs := E2.vals.toArray) (t := 37) (fr := (0, 0)) (heap_alloc_new wq _)) (Ev.one E2)
              (by omega) (by unfold maxLen; omega) (by omega) (by omega) (wq.heap.size + 1) (by simp) ?_
            intro gg cap w1 hown1 hgrow hat hlt1
            have hb0 : Below wq.heap.size wq (wq.alloc (.cells E2.vals.toArray 37)).drew := ((Below.refl _ wq).alloc (Nat.le_refl _) _).drew
            obtain ⟨q0, hE⟩ := HH.out.appAllE (cap := cap) hb0 hown1 hgrow hat
            obtain ⟨_, _, qk, _, _, _⟩ := HH.out.app (j := 1) hb0 rfl (by omega) hgrow hat
            have q4 := q0.frozen 0
            have HB1 : Hid (Blk w1 eb 37 E2.vals) := HBx.out.kept qk HNe.out
            have HE3 : Hid (EvoL wq gb G (w1.setCell ⟨gb, 0, none⟩ (.slice (some ⟨gg, 0, none⟩) (G.all.length + 1) cap)) { G with all := G.all ++ [E2], aa := some ⟨gg, 0, none⟩, ac := cap }) := hE
            clear hE qk
            refine hK.out _ _ (fun _ => ⟨q0.cell 0, HB1.out.cell 0, HB1.out.cell 1, HB1.out.cell 2, HB1.out.cell 3, HB1.out.cell 4⟩) ?_
            clear hK K hS0
            (try simp only [Act.put, List.setIfInBounds_toArray, List.set_cons_zero, List.set_cons_succ, List.getElem_toArray, List.getElem_cons_succ, List.getElem_cons_zero])
            refine upTo_one (i := 8) (by kernel_rfl) rfl (fun K hK => ?_)
            go_simp
            refine hK.out _ _ (fun _ => ⟨q0.cell 0, HB1.out.cell 0, HB1.out.cell 1, HB1.out.cell 2, HB1.out.cell 3, HB1.out.cell 4⟩) ?_
            clear hK K
            (try simp only [Act.put, List.setIfInBounds_toArray, List.set_cons_zero, List.set_cons_succ, List.getElem_toArray, List.getElem_cons_succ, List.getElem_cons_zero])
            refine upTo_one (i := 9) (by kernel_rfl) rfl (fun K hK => ?_)
            go_simp
            refine hK.out _ _ (fun _ => ⟨q0.cell 0, HB1.out.cell 0, HB1.out.cell 1, HB1.out.cell 2, HB1.out.cell 3, HB1.out.cell 4⟩) ?_
            clear hK K
            (try simp only [Act.put, List.setIfInBounds_toArray, List.set_cons_zero, List.set_cons_succ, List.getElem_toArray, List.getElem_cons_succ, List.getElem_cons_zero])
            have q5 := q0.cell 0
            simp only [List.getElem?_cons_succ, List.getElem?_cons_zero] at q5
            refine upTo_one (i := 10) (by kernel_rfl) rfl (fun K hK => ?_)
            go_simp
            refine hK.out _ _ (fun h => absurd rfl h) ?_
            clear hK K
            (try simp only [Act.put, List.setIfInBounds_toArray, List.set_cons_zero, List.set_cons_succ, List.getElem_toArray, List.getElem_cons_succ, List.getElem_cons_zero])
            refine upTo_done (by kernel_rfl) ?_
            have HPz : Hid (OneL w0 (w1.setCell ⟨gb, 0, none⟩ (.slice (some ⟨gg, 0, none⟩) (G.all.length + 1) cap)) b gb bs X' { G with all := G.all ++ [E2], aa := some ⟨gg, 0, none⟩, ac := cap }) := (HPq.out.evoL HE3.out).less (fun x hx => by simp [hx])
            clear q0 q4 q5 cx hown1 hgrow hat hlt1 hb0 HRow HB1 HE3
            generalize w1.setCell ⟨gb, 0, none⟩ (.slice (some ⟨gg, 0, none⟩) (G.all.length + 1) cap) = wz at *
            go_wp2
            go_ret
            refine ⟨rfl, X', { G with all := G.all ++ [E2], aa := some ⟨gg, 0, none⟩, ac := cap }, HPz.out, R', ⟨⟨_, HL'.out⟩, ?_, ?_, HSt.out, HNx.out, HRc.out⟩⟩
            · show G.all ++ [_] = _; rw [HAl.out, HKp.out.all, ← HTk.out]
            · show G.aside = _; rw [HAs.out, HKp.out.aside]
          · have HTk : Hid (E1 = R.taken i E) := by show _ = _; rw [HE1.out]; unfold Ref.taken Ref.lifts; simp [hms]
            have hmd : decide (E.ts < R.merged) = false := by simpa using hms
            clear hlate
            go_upto_region 24 with fail
            obtain ⟨wq, HWq⟩ := hex w8
            rw [← HWq.out]
            have HPq : Hid (OneL w0 wq b gb ((eb, 37, E1.vals) :: (kb, 60, [.bool T.inn, .bool T.idle, .int .i64 T.mark, .int .i64 T.n, .int .i64 T.last]) :: (cb, 26, c.vals) :: bs) X' G) := by show OneL _ _ _ _ _ _ _; rw [HWq.out]; exact HP8.out
            clear HWq
            have HBx : Hid (Blk wq eb 37 E1.vals) := HPq.out.bx (eb, 37, E1.vals) (by simp)
            have HNe : Hid (¬ some eb ∈ G.fp gb) := HPq.out.ng (eb, 37, E1.vals) (by simp)
            have HH : Hid (MemL wq gb G) := HPq.out.ml
            have cx : wq.cell? ⟨gb, 0, none⟩ = some (.slice G.aa G.all.length G.ac) := HH.out.blk.cell 0
            have HRow : Hid (Row wq 37 5 G.aa G.all.length G.ac (evs G.all)) := HH.out.ra
            refine upTo_region (fun u : World => u.cell? ⟨gb, 0, none⟩ = some (.slice G.aa G.all.length G.ac) ∧ u.cell? ⟨eb, 0, none⟩ = some (.int .i64 E1.src) ∧ u.cell? ⟨eb, 1, none⟩ = some (.int .i64 E1.seq) ∧ u.cell? ⟨eb, 2, none⟩ = some (.int .i64 E1.ts) ∧ u.cell? ⟨eb, 3, none⟩ = some (.int .i64 E1.kind) ∧ u.cell? ⟨eb, 4, none⟩ = some (.int .i64 E1.val)) 10 11 rfl (by kernel_rfl) ?_
            have hS0 : (fun u : World => u.cell? ⟨gb, 0, none⟩ = some (.slice G.aa G.all.length G.ac) ∧ u.cell? ⟨eb, 0, none⟩ = some (.int .i64 E1.src) ∧ u.cell? ⟨eb, 1, none⟩ = some (.int .i64 E1.seq) ∧ u.cell? ⟨eb, 2, none⟩ = some (.int .i64 E1.ts) ∧ u.cell? ⟨eb, 3, none⟩ = some (.int .i64 E1.kind) ∧ u.cell? ⟨eb, 4, none⟩ = some (.int .i64 E1.val)) wq.drew := ⟨cx, HBx.out.cell 0, HBx.out.cell 1, HBx.out.cell 2, HBx.out.cell 3, HBx.out.cell 4⟩
            refine upTo_take (i := 0) (v := ?v31_0) rfl (by kernel_rfl) (by kernel_rfl) (by kernel_rfl) (by kernel_rfl) (by rfl) (fun _ _ _ h => h) (by rfl) hS0 ?hy31_0 ?rest31_0
            case hy31_0 => (intro u hu; (try dsimp only at hu); go_simp; first | done | with_reducible rfl)
            (try simp only [Act.put, List.setIfInBounds_toArray, List.set_cons_zero, List.set_cons_succ, List.getElem_toArray, List.getElem_cons_succ, List.getElem_cons_zero])
            refine upTo_take (i := 1) (v := ?v31_1) rfl (by kernel_rfl) (by kernel_rfl) (by kernel_rfl) (by kernel_rfl) (by rfl) (fun _ _ _ h => h) (by rfl) hS0 ?hy31_1 ?rest31_1
            case hy31_1 => (intro u hu; (try dsimp only at hu); go_simp; first | done | with_reducible rfl)
            (try simp only [Act.put, List.setIfInBounds_toArray, List.set_cons_zero, List.set_cons_succ, List.getElem_toArray, List.getElem_cons_succ, List.getElem_cons_zero])
            refine upTo_take (i := 2) (v := ?v31_2) rfl (by kernel_rfl) (by kernel_rfl) (by kernel_rfl) (by kernel_rfl) (by rfl) (fun _ _ _ h => h) (by rfl) hS0 ?hy31_2 ?rest31_2
            case hy31_2 => (intro u hu; (try dsimp only at hu); go_simp; first | done | with_reducible rfl)
            (try simp only [Act.put, List.setIfInBounds_toArray, List.set_cons_zero, List.set_cons_succ, List.getElem_toArray, List.getElem_cons_succ, List.getElem_cons_zero])
            refine upTo_take (i := 3) (v := ?v31_3) rfl (by kernel_rfl) (by kernel_rfl) (by kernel_rfl) (by kernel_rfl) (by rfl) (fun _ _ _ h => h) (by rfl) hS0 ?hy31_3 ?rest31_3
            case hy31_3 => (intro u hu; (try dsimp only at hu); go_simp; first | done | with_reducible rfl)
            (try simp only [Act.put, List.setIfInBounds_toArray, List.set_cons_zero, List.set_cons_succ, List.getElem_toArray, List.getElem_cons_succ, List.getElem_cons_zero])
            refine upTo_take (i := 4) (v := ?v31_4) rfl (by kernel_rfl) (by kernel_rfl) (by kernel_rfl) (by kernel_rfl) (by rfl) (fun _ _ _ h => h) (by rfl) hS0 ?hy31_4 ?rest31_4
            case hy31_4 => (intro u hu; (try dsimp only at hu); go_simp; first | done | with_reducible rfl)
            (try simp only [Act.put, List.setIfInBounds_toArray, List.set_cons_zero, List.set_cons_succ, List.getElem_toArray, List.getElem_cons_succ, List.getElem_cons_zero])
            refine upTo_take (i := 5) (v := ?v31_5) rfl (by kernel_rfl) (by kernel_rfl) (by kernel_rfl) (by kernel_rfl) (by rfl) (fun _ _ _ h => h) (by rfl) hS0 ?hy31_5 ?rest31_5
            case hy31_5 => (intro u hu; (try dsimp only at hu); go_simp; first | done | with_reducible rfl)
            (try simp only [Act.put, List.setIfInBounds_toArray, List.set_cons_zero, List.set_cons_succ, List.getElem_toArray, List.getElem_cons_succ, List.getElem_cons_zero])
            refine upTo_one (i := 6) (by kernel_rfl) rfl (fun K hK => ?_)
            go_simp
            refine hK.out _ _ (fun _ => ⟨((HH.out.kept (below_kept ((Below.refl _ wq).alloc (Nat.le_refl _) _) (fun _ => False)) (fun _ _ e => e)).blk.cell 0), (HBx.out.alloc _).cell 0, (HBx.out.alloc _).cell 1, (HBx.out.alloc _).cell 2, (HBx.out.alloc _).cell 3, (HBx.out.alloc _).cell 4⟩) ?_
            clear hK K
            (try simp only [Act.put, List.setIfInBounds_toArray, List.set_cons_zero, List.set_cons_succ, List.getElem_toArray, List.getElem_cons_succ, List.getElem_cons_zero])
            refine upTo_one (i := 7) (by kernel_rfl) rfl (fun K hK => ?_)
            refine step_append_lies _ (by rfl) _ _ _ (by rfl) 0 37 j0 _ 5 40 Tryd.underlying32 hj0 hy0 hy1 hy2 rfl (by omega) (.slice G.aa G.all.length G.ac) G.all.length (evs G.all) (by rfl) (ownsRow_of_heap HRow.out (fun k hk => Below.heap_alloc _ _ _ hk))
              ⟨wq.heap.size, 0, none⟩ 1 1 E1.vals (by rfl) (by rfl) (World.news_of_block (cs := E1.vals.toArray) (t := 37) (fr := (0, 0)) (heap_alloc_new wq _)) (Ev.one E1)
              (by omega) (by unfold maxLen; omega) (by omega) (by omega) (wq.heap.size + 1) (by simp) ?_
            intro gg cap w1 hown1 hgrow hat hlt1
            have hb0 : Below wq.heap.size wq (wq.alloc (.cells E1.vals.toArray 37)).drew := ((Below.refl _ wq).alloc (Nat.le_refl _) _).drew
            obtain ⟨q0, hE⟩ := HH.out.appAllE (cap := cap) hb0 hown1 hgrow hat
            obtain ⟨_, _, qk, _, _, _⟩ := HH.out.app (j := 1) hb0 rfl (by omega) hgrow hat
            have q4 := q0.frozen 0
            have HB1 : Hid (Blk w1 eb 37 E1.vals) := HBx.out.kept qk HNe.out
            have HE3 : Hid (EvoL wq gb G (w1.setCell ⟨gb, 0, none⟩ (.slice (some ⟨gg, 0, none⟩) (G.all.length + 1) cap)) { G with all := G.all ++ [E1], aa := some ⟨gg, 0, none⟩, ac := cap }) := hE
            clear hE qk
            refine hK.out _ _ (fun _ => ⟨q0.cell 0, HB1.out.cell 0, HB1.out.cell 1, HB1.out.cell 2, HB1.out.cell 3, HB1.out.cell 4⟩) ?_
            clear hK K hS0
            (try simp only [Act.put, List.setIfInBounds_toArray, List.set_cons_zero, List.set_cons_succ, List.getElem_toArray, List.getElem_cons_succ, List.getElem_cons_zero])
            refine upTo_one (i := 8) (by kernel_rfl) rfl (fun K hK => ?_)
            go_simp
            refine hK.out _ _ (fun _ => ⟨q0.cell 0, HB1.out.cell 0, HB1.out.cell 1, HB1.out.cell 2, HB1.out.cell 3, HB1.out.cell 4⟩) ?_
            clear hK K
            (try simp only [Act.put, List.setIfInBounds_toArray, List.set_cons_zero, List.set_cons_succ, List.getElem_toArray, List.getElem_cons_succ, List.getElem_cons_zero])
            refine upTo_one (i := 9) (by kernel_rfl) rfl (fun K hK => ?_)
            go_simp
            refine hK.out _ _ (fun _ => ⟨q0.cell 0, HB1.out.cell 0, HB1.out.cell 1, HB1.out.cell 2, HB1.out.cell 3, HB1.out.cell 4⟩) ?_
            clear hK K
            (try simp only [Act.put, List.setIfInBounds_toArray, List.set_cons_zero, List.set_cons_succ, List.getElem_toArray, List.getElem_cons_succ, List.getElem_cons_zero])
            have q5 := q0.cell 0
            simp only [List.getElem?_cons_succ, List.getElem?_cons_zero] at q5
            refine upTo_one (i := 10) (by kernel_rfl) rfl (fun K hK => ?_)
            go_simp
            refine hK.out _ _ (fun h => absurd rfl h) ?_
            clear hK K
            (try simp only [Act.put, List.setIfInBounds_toArray, List.set_cons_zero, List.set_cons_succ, List.getElem_toArray, List.getElem_cons_succ, List.getElem_cons_zero])
            refine upTo_done (by kernel_rfl) ?_
            have HPz : Hid (OneL w0 (w1.setCell ⟨gb, 0, none⟩ (.slice (some ⟨gg, 0, none⟩) (G.all.length + 1) cap)) b gb bs X' { G with all := G.all ++ [E1], aa := some ⟨gg, 0, none⟩, ac := cap }) := (HPq.out.evoL HE3.out).less (fun x hx => by simp [hx])
            clear q0 q4 q5 cx hown1 hgrow hat hlt1 hb0 HRow HB1 HE3
            generalize w1.setCell ⟨gb, 0, none⟩ (.slice (some ⟨gg, 0, none⟩) (G.all.length + 1) cap) = wz at *
            go_wp2
            go_ret
            refine ⟨rfl, X', { G with all := G.all ++ [E1], aa := some ⟨gg, 0, none⟩, ac := cap }, HPz.out, R', ⟨⟨_, HL'.out⟩, ?_, ?_, HSt.out, HNx.out, HRc.out⟩⟩
            · show G.all ++ [_] = _; rw [HAl.out, HKp.out.all, ← HTk.out]
            · show G.aside = _; rw [HAs.out, HKp.out.aside]
      · have hlate : R.late i E = false := by unfold Ref.late; rw [hbd]; simpa using hlt
        have hld : decide (E.ts < T.mark) = false := by simpa using hlt
        have hst : R.stays i E = true := by unfold Ref.stays; rw [hlate]; rfl
        obtain ⟨hal, has⟩ : R'.all = R.all ++ [R.taken i E] ∧ R'.aside = R.aside := by
          rcases HLd.out with ⟨_, h1, h2⟩ | ⟨h, _⟩ | ⟨h, _⟩
          · exact ⟨h1, h2⟩
          · rw [hst] at h; cases h
          · rw [hst] at h; cases h
        have HTk : Hid (E1 = R.taken i E) := by show _ = _; rw [HE1.out]; unfold Ref.taken Ref.lifts; rw [hlate]; simp
        have HAl : Hid (R'.all = R.all ++ [R.taken i E]) := hal
        have HAs : Hid (R'.aside = R.aside) := has
        have hn1 : (R'.all.length : Int) = (R.all.length : Int) + 1 := by rw [HAl.out]; simp
        have hn2 : (R'.aside.length : Int) = (R.aside.length : Int) := by rw [HAs.out]
        have hgl : G.all.length ≤ 200 := by rw [HKp.out.all]; exact HBn.out.1
        have hwp : IntKind.i64.wrap ((R.all.length : Int) + 1) = (R.all.length : Int) + 1 := by rw [IntKind.wrap_i64]; have := HBn.out.1; omega
        clear hal has hlate hst
        go_upto_region 24 with fail
        obtain ⟨wq, HWq⟩ := hex w8
        rw [← HWq.out]
        have HPq : Hid (OneL w0 wq b gb ((eb, 37, E1.vals) :: (kb, 60, [.bool T.inn, .bool T.idle, .int .i64 T.mark, .int .i64 T.n, .int .i64 T.last]) :: (cb, 26, c.vals) :: bs) X' G) := by show OneL _ _ _ _ _ _ _; rw [HWq.out]; exact HP8.out
        clear HWq
        have HBx : Hid (Blk wq eb 37 E1.vals) := HPq.out.bx (eb, 37, E1.vals) (by simp)
        have HNe : Hid (¬ some eb ∈ G.fp gb) := HPq.out.ng (eb, 37, E1.vals) (by simp)
        have HH : Hid (MemL wq gb G) := HPq.out.ml
        have cx : wq.cell? ⟨gb, 0, none⟩ = some (.slice G.aa G.all.length G.ac) := HH.out.blk.cell 0
        have HRow : Hid (Row wq 37 5 G.aa G.all.length G.ac (evs G.all)) := HH.out.ra
        refine upTo_region (fun u : World => u.cell? ⟨gb, 0, none⟩ = some (.slice G.aa G.all.length G.ac) ∧ u.cell? ⟨eb, 0, none⟩ = some (.int .i64 E1.src) ∧ u.cell? ⟨eb, 1, none⟩ = some (.int .i64 E1.seq) ∧ u.cell? ⟨eb, 2, none⟩ = some (.int .i64 E1.ts) ∧ u.cell? ⟨eb, 3, none⟩ = some (.int .i64 E1.kind) ∧ u.cell? ⟨eb, 4, none⟩ = some (.int .i64 E1.val)) 10 11 rfl (by kernel_rfl) ?_
        have hS0 : (fun u : World => u.cell? ⟨gb, 0, none⟩ = some (.slice G.aa G.all.length G.ac) ∧ u.cell? ⟨eb, 0, none⟩ = some (.int .i64 E1.src) ∧ u.cell? ⟨eb, 1, none⟩ = some (.int .i64 E1.seq) ∧ u.cell? ⟨eb, 2, none⟩ = some (.int .i64 E1.ts) ∧ u.cell? ⟨eb, 3, none⟩ = some (.int .i64 E1.kind) ∧ u.cell? ⟨eb, 4, none⟩ = some (.int .i64 E1.val)) wq.drew := ⟨cx, HBx.out.cell 0, HBx.out.cell 1, HBx.out.cell 2, HBx.out.cell 3, HBx.out.cell 4⟩
        refine upTo_take (i := 0) (v := ?v32_0) rfl (by kernel_rfl) (by kernel_rfl) (by kernel_rfl) (by kernel_rfl) (by rfl) (fun _ _ _ h => h) (by rfl) hS0 ?hy32_0 ?rest32_0
        case hy32_0 => (intro u hu; (try dsimp only at hu); go_simp; first | done | with_reducible rfl)
        (try simp only [Act.put, List.setIfInBounds_toArray, List.set_cons_zero, List.set_cons_succ, List.getElem_toArray, List.getElem_cons_succ, List.getElem_cons_zero])
        refine upTo_take (i := 1) (v := ?v32_1) rfl (by kernel_rfl) (by kernel_rfl) (by kernel_rfl) (by kernel_rfl) (by rfl) (fun _ _ _ h => h) (by rfl) hS0 ?hy32_1 ?rest32_1
        case hy32_1 => (intro u hu; (try dsimp only at hu); go_simp; first | done | with_reducible rfl)
        (try simp only [Act.put, List.setIfInBounds_toArray, List.set_cons_zero, List.set_cons_succ, List.getElem_toArray, List.getElem_cons_succ, List.getElem_cons_zero])
        refine upTo_take (i := 2) (v := ?v32_2) rfl (by kernel_rfl) (by kernel_rfl) (by kernel_rfl) (by kernel_rfl) (by rfl) (fun _ _ _ h => h) (by rfl) hS0 ?hy32_2 ?rest32_2
        case hy32_2 => (intro u hu; (try dsimp only at hu); go_simp; first | done | with_reducible rfl)
        (try simp only [Act.put, List.setIfInBounds_toArray, List.set_cons_zero, List.set_cons_succ, List.getElem_toArray, List.getElem_cons_succ, List.getElem_cons_zero])
        refine upTo_take (i := 3) (v := ?v32_3) rfl (by kernel_rfl) (by kernel_rfl) (by kernel_rfl) (by kernel_rfl) (by rfl) (fun _ _ _ h => h) (by rfl) hS0 ?hy32_3 ?rest32_3
        case hy32_3 => (intro u hu; (try dsimp only at hu); go_simp; first | done | with_reducible rfl)
        (try simp only [Act.put, List.setIfInBounds_toArray, List.set_cons_zero, List.set_cons_succ, List.getElem_toArray, List.getElem_cons_succ, List.getElem_cons_zero])
        refine upTo_take (i := 4) (v := ?v32_4) rfl (by kernel_rfl) (by kernel_rfl) (by kernel_rfl) (by kernel_rfl) (by rfl) (fun _ _ _ h => h) (by rfl) hS0 ?hy32_4 ?rest32_4
        case hy32_4 => (intro u hu; (try dsimp only at hu); go_simp; first | done | with_reducible rfl)
        (try simp only [Act.put, List.setIfInBounds_toArray, List.set_cons_zero, List.set_cons_succ, List.getElem_toArray, List.getElem_cons_succ, List.getElem_cons_zero])
        refine upTo_take (i := 5) (v := ?v32_5) rfl (by kernel_rfl) (by kernel_rfl) (by kernel_rfl) (by kernel_rfl) (by rfl) (fun _ _ _ h => h) (by rfl) hS0 ?hy32_5 ?rest32_5
        case hy32_5 => (intro u hu; (try dsimp only at hu); go_simp; first | done | with_reducible rfl)
        (try simp only [Act.put, List.setIfInBounds_toArray, List.set_cons_zero, List.set_cons_succ, List.getElem_toArray, List.getElem_cons_succ, List.getElem_cons_zero])
        refine upTo_one (i := 6) (by kernel_rfl) rfl (fun K hK => ?_)
        go_simp
        refine hK.out _ _ (fun _ => ⟨((HH.out.kept (below_kept ((Below.refl _ wq).alloc (Nat.le_refl _) _) (fun _ => False)) (fun _ _ e => e)).blk.cell 0), (HBx.out.alloc _).cell 0, (HBx.out.alloc _).cell 1, (HBx.out.alloc _).cell 2, (HBx.out.alloc _).cell 3, (HBx.out.alloc _).cell 4⟩) ?_
        clear hK K
        (try simp only [Act.put, List.setIfInBounds_toArray, List.set_cons_zero, List.set_cons_succ, List.getElem_toArray, List.getElem_cons_succ, List.getElem_cons_zero])
        refine upTo_one (i := 7) (by kernel_rfl) rfl (fun K hK => ?_)
        refine step_append_lies _ (by rfl) _ _ _ (by rfl) 0 37 j0 _ 5 40 Tryd.underlying32 hj0 hy0 hy1 hy2 rfl (by omega) (.slice G.aa G.all.length G.ac) G.all.length (evs G.all) (by rfl) (ownsRow_of_heap HRow.out (fun k hk => Below.heap_alloc _ _ _ hk))
          ⟨wq.heap.size, 0, none⟩ 1 1 E1.vals (by rfl) (by rfl) (World.news_of_block (cs := E1.vals.toArray) (t := 37) (fr := (0, 0)) (heap_alloc_new wq _)) (Ev.one E1)
          (by omega) (by unfold maxLen; omega) (by omega) (by omega) (wq.heap.size + 1) (by simp) ?_
        intro gg cap w1 hown1 hgrow hat hlt1
        have hb0 : Below wq.heap.size wq (wq.alloc (.cells E1.vals.toArray 37)).drew := ((Below.refl _ wq).alloc (Nat.le_refl _) _).drew
        obtain ⟨q0, hE⟩ := HH.out.appAllE (cap := cap) hb0 hown1 hgrow hat
        obtain ⟨_, _, qk, _, _, _⟩ := HH.out.app (j := 1) hb0 rfl (by omega) hgrow hat
        have q4 := q0.frozen 0
        have HB1 : Hid (Blk w1 eb 37 E1.vals) := HBx.out.kept qk HNe.out
        have HE3 : Hid (EvoL wq gb G (w1.setCell ⟨gb, 0, none⟩ (.slice (some ⟨gg, 0, none⟩) (G.all.length + 1) cap)) { G with all := G.all ++ [E1], aa := some ⟨gg, 0, none⟩, ac := cap }) := hE
        clear hE qk
        refine hK.out _ _ (fun _ => ⟨q0.cell 0, HB1.out.cell 0, HB1.out.cell 1, HB1.out.cell 2, HB1.out.cell 3, HB1.out.cell 4⟩) ?_
        clear hK K hS0
        (try simp only [Act.put, List.setIfInBounds_toArray, List.set_cons_zero, List.set_cons_succ, List.getElem_toArray, List.getElem_cons_succ, List.getElem_cons_zero])
        refine upTo_one (i := 8) (by kernel_rfl) rfl (fun K hK => ?_)
        go_simp
        refine hK.out _ _ (fun _ => ⟨q0.cell 0, HB1.out.cell 0, HB1.out.cell 1, HB1.out.cell 2, HB1.out.cell 3, HB1.out.cell 4⟩) ?_
        clear hK K
        (try simp only [Act.put, List.setIfInBounds_toArray, List.set_cons_zero, List.set_cons_succ, List.getElem_toArray, List.getElem_cons_succ, List.getElem_cons_zero])
        refine upTo_one (i := 9) (by kernel_rfl) rfl (fun K hK => ?_)
        go_simp
        refine hK.out _ _ (fun _ => ⟨q0.cell 0, HB1.out.cell 0, HB1.out.cell 1, HB1.out.cell 2, HB1.out.cell 3, HB1.out.cell 4⟩) ?_
        clear hK K
        (try simp only [Act.put, List.setIfInBounds_toArray, List.set_cons_zero, List.set_cons_succ, List.getElem_toArray, List.getElem_cons_succ, List.getElem_cons_zero])
        have q5 := q0.cell 0
        simp only [List.getElem?_cons_succ, List.getElem?_cons_zero] at q5
        refine upTo_one (i := 10) (by kernel_rfl) rfl (fun K hK => ?_)
        go_simp
        refine hK.out _ _ (fun h => absurd rfl h) ?_
        clear hK K
        (try simp only [Act.put, List.setIfInBounds_toArray, List.set_cons_zero, List.set_cons_succ, List.getElem_toArray, List.getElem_cons_succ, List.getElem_cons_zero])
        refine upTo_done (by kernel_rfl) ?_
        have HPz : Hid (OneL w0 (w1.setCell ⟨gb, 0, none⟩ (.slice (some ⟨gg, 0, none⟩) (G.all.length + 1) cap)) b gb bs X' { G with all := G.all ++ [E1], aa := some ⟨gg, 0, none⟩, ac := cap }) := (HPq.out.evoL HE3.out).less (fun x hx => by simp [hx])
        clear q0 q4 q5 cx hown1 hgrow hat hlt1 hb0 HRow HB1 HE3
        generalize w1.setCell ⟨gb, 0, none⟩ (.slice (some ⟨gg, 0, none⟩) (G.all.length + 1) cap) = wz at *
        go_wp2
        go_ret
        refine ⟨rfl, X', { G with all := G.all ++ [E1], aa := some ⟨gg, 0, none⟩, ac := cap }, HPz.out, R', ⟨⟨_, HL'.out⟩, ?_, ?_, HSt.out, HNx.out, HRc.out⟩⟩
        · show G.all ++ [_] = _; rw [HAl.out, HKp.out.all, ← HTk.out]
        · show G.aside = _; rw [HAs.out, HKp.out.aside]
    | true =>
      rw [hid] at s1
      by_cases hgt : T.mark < R.merged
      · have hbd : R.bound i = R.merged := by unfold Ref.bound; rw [← HT1.out, hid, ← HT2.out]; simp [hgt]
        have hgd : decide (T.mark < R.merged) = true := by simpa using hgt
        clear hid
        go_upto_region 15 with fail
        have fe0 := (HP7.out.bx (eb, 37, E.vals) (by simp)).frozen 0
        go_upto_region 16 with fail
        obtain ⟨E1, HE1⟩ := hex ({ E with src := i } : Ev)
        have HP8 : Hid (OneL w0 (w7.setCell ⟨eb, 0, none⟩ (.int .i64 i)) b gb ((eb, 37, E1.vals) :: (kb, 60, [.bool T.inn, .bool T.idle, .int .i64 T.mark, .int .i64 T.n, .int .i64 T.last]) :: (cb, 26, c.vals) :: bs) X' G) := by
          have := HP7.out.set 0 (.int .i64 i) HEw.out HEn.out
          show OneL _ _ _ _ _ _ _
          rw [HE1.out]
          exact this
        clear fe0 e0 e1 e2 e3 e4 k0 k1 k2 k3 k4 k5 s0 s1 s2 s3 s4
        generalize w7.setCell ⟨eb, 0, none⟩ (.int .i64 i) = w8 at *
        have k0 := (HP8.out.bx (cb, 26, c.vals) (by simp)).cell 0
        have k1 := (HP8.out.bx (cb, 26, c.vals) (by simp)).cell 1
        have k2 := (HP8.out.bx (cb, 26, c.vals) (by simp)).cell 2
        have k3 := (HP8.out.bx (cb, 26, c.vals) (by simp)).cell 3
        have k4 := (HP8.out.bx (cb, 26, c.vals) (by simp)).cell 4
        have k5 := (HP8.out.bx (cb, 26, c.vals) (by simp)).cell 5
        simp only [Cfg.vals, List.getElem?_cons_zero, List.getElem?_cons_succ] at k0 k1 k2 k3 k4 k5
        have e0 := (HP8.out.bx (eb, 37, E1.vals) (by simp)).cell 0
        have e1 := (HP8.out.bx (eb, 37, E1.vals) (by simp)).cell 1
        have e2 := (HP8.out.bx (eb, 37, E1.vals) (by simp)).cell 2
        have e3 := (HP8.out.bx (eb, 37, E1.vals) (by simp)).cell 3
        have e4 := (HP8.out.bx (eb, 37, E1.vals) (by simp)).cell 4
        simp only [Ev.vals, List.getElem?_cons_zero, List.getElem?_cons_succ] at e0 e1 e2 e3 e4
        have he2 : E1.ts = E.ts := by rw [HE1.out]
        rw [he2] at e2
        clear he2
        by_cases hlt : E.ts < R.merged
        · have hlate : R.late i E = true := by unfold Ref.late; rw [hbd]; simpa using hlt
          have hld : decide (E.ts < R.merged) = true := by simpa using hlt
          have hp : R.c.policy = 0 ∨ R.c.policy = 1 ∨ R.c.policy = 2 := by have := HPo.out; omega
          rw [HRcc.out] at hp
          rcases hp with hp0 | hp1 | hp2
          · have hst : R.stays i E = false := by unfold Ref.stays; rw [hlate, HRcc.out, hp0]; decide
            obtain ⟨hal, has⟩ : R'.all = R.all ∧ R'.aside = R.aside := by
              rcases HLd.out with ⟨h, _, _⟩ | ⟨_, h, _⟩ | ⟨_, _, h1, h2⟩
              · rw [hst] at h; cases h
              · rw [HRcc.out, hp0] at h; cases h
              · exact ⟨h1, h2⟩
            have HAl : Hid (R'.all = R.all) := hal
            have HAs : Hid (R'.aside = R.aside) := has
            have hn1 : (R'.all.length : Int) = (R.all.length : Int) := by rw [HAl.out]
            have hn2 : (R'.aside.length : Int) = (R.aside.length : Int) := by rw [HAs.out]
            clear hal has hlate hst
            rw [hp0] at k2
            go_wp2
            go_ret
            exact ⟨rfl, X', G, HP8.out.less (fun x hx => by simp [hx]), R', ⟨⟨_, HL'.out⟩, HKp.out.all.trans HAl.out.symm, HKp.out.aside.trans HAs.out.symm, HSt.out, HNx.out, HRc.out⟩⟩
          · have hst : R.stays i E = false := by unfold Ref.stays; rw [hlate, HRcc.out, hp1]; decide
            obtain ⟨hal, has⟩ : R'.all = R.all ∧ R'.aside = R.aside ++ [R.taken i E] := by
              rcases HLd.out with ⟨h, _, _⟩ | ⟨_, _, h1, h2⟩ | ⟨_, h, _⟩
              · rw [hst] at h; cases h
              · exact ⟨h1, h2⟩
              · exact absurd (HRcc.out ▸ hp1 : R.c.policy = 1) h
            have HTk : Hid (E1 = R.taken i E) := by show _ = _; rw [HE1.out]; unfold Ref.taken Ref.lifts; rw [HRcc.out, hp1]; simp
            have HAl : Hid (R'.all = R.all) := hal
            have HAs : Hid (R'.aside = R.aside ++ [R.taken i E]) := has
            have hn1 : (R'.all.length : Int) = (R.all.length : Int) := by rw [HAl.out]
            have hn2 : (R'.aside.length : Int) = (R.aside.length : Int) + 1 := by rw [HAs.out]; simp
            have hgl : G.aside.length ≤ 200 := by rw [HKp.out.aside]; exact HBn.out.2
            have hwp : IntKind.i64.wrap ((R.aside.length : Int) + 1) = (R.aside.length : Int) + 1 := by rw [IntKind.wrap_i64]; have := HBn.out.2; omega
            clear hal has hlate hst
            rw [hp1] at k2
            go_upto_region 20 with fail
            obtain ⟨wq, HWq⟩ := hex w8
            rw [← HWq.out]
            have HPq : Hid (OneL w0 wq b gb ((eb, 37, E1.vals) :: (kb, 60, [.bool T.inn, .bool T.idle, .int .i64 T.mark, .int .i64 T.n, .int .i64 T.last]) :: (cb, 26, c.vals) :: bs) X' G) := by show OneL _ _ _ _ _ _ _; rw [HWq.out]; exact HP8.out
            clear HWq
            have HBx : Hid (Blk wq eb 37 E1.vals) := HPq.out.bx (eb, 37, E1.vals) (by simp)
            have HNe : Hid (¬ some eb ∈ G.fp gb) := HPq.out.ng (eb, 37, E1.vals) (by simp)
            have HH : Hid (MemL wq gb G) := HPq.out.ml
            have cx : wq.cell? ⟨gb, 1, none⟩ = some (.slice G.da G.aside.length G.dc) := HH.out.blk.cell 1
            have HRow : Hid (Row wq 37 5 G.da G.aside.length G.dc (evs G.aside)) := HH.out.rd
            refine upTo_region (fun u : World => u.cell? ⟨gb, 1, none⟩ = some (.slice G.da G.aside.length G.dc) ∧ u.cell? ⟨eb, 0, none⟩ = some (.int .i64 E1.src) ∧ u.cell? ⟨eb, 1, none⟩ = some (.int .i64 E1.seq) ∧ u.cell? ⟨eb, 2, none⟩ = some (.int .i64 E1.ts) ∧ u.cell? ⟨eb, 3, none⟩ = some (.int .i64 E1.kind) ∧ u.cell? ⟨eb, 4, none⟩ = some (.int .i64 E1.val)) 10 11 rfl (by kernel_rfl) ?_
            have hS0 : (fun u : World => u.cell? ⟨gb, 1, none⟩ = some (.slice G.da G.aside.length G.dc) ∧ u.cell? ⟨eb, 0, none⟩ = some (.int .i64 E1.src) ∧ u.cell? ⟨eb, 1, none⟩ = some (.int .i64 E1.seq) ∧ u.cell? ⟨eb, 2, none⟩ = some (.int .i64 E1.ts) ∧ u.cell? ⟨eb, 3, none⟩ = some (.int .i64 E1.kind) ∧ u.cell? ⟨eb, 4, none⟩ = some (.int .i64 E1.val)) wq.drew := ⟨cx, HBx.out.cell 0, HBx.out.cell 1, HBx.out.cell 2, HBx.out.cell 3, HBx.out.cell 4⟩
            refine upTo_take (i := 0) (v := ?v33_0) rfl (by kernel_rfl) (by kernel_rfl) (by kernel_rfl) (by kernel_rfl) (by rfl) (fun _ _ _ h => h) (by rfl) hS0 ?hy33_0 ?rest33_0
            case hy33_0 => (intro u hu; (try dsimp only at hu); go_simp; first | done | with_reducible rfl)
            (try simp only [Act.put, List.setIfInBounds_toArray, List.set_cons_zero, List.set_cons_succ, List.getElem_toArray, List.getElem_cons_succ, List.getElem_cons_zero])
            refine upTo_take (i := 1) (v := ?v33_1) rfl (by kernel_rfl) (by kernel_rfl) (by kernel_rfl) (by kernel_rfl) (by rfl) (fun _ _ _ h => h) (by rfl) hS0 ?hy33_1 ?rest33_1
            case hy33_1 => (intro u hu; (try dsimp only at hu); go_simp; first | done | with_reducible rfl)
            (try simp only [Act.put, List.setIfInBounds_toArray, List.set_cons_zero, List.set_cons_succ, List.getElem_toArray, List.getElem_cons_succ, List.getElem_cons_zero])
            refine upTo_take (i := 2) (v := ?v33_2) rfl (by kernel_rfl) (by kernel_rfl) (by kernel_rfl) (by kernel_rfl) (by rfl) (fun _ _ _ h => h) (by rfl) hS0 ?hy33_2 ?rest33_2
            case hy33_2 => (intro u hu; (try dsimp only at hu); go_simp; first | done | with_reducible rfl)
            (try simp only [Act.put, List.setIfInBounds_toArray, List.set_cons_zero, List.set_cons_succ, List.getElem_toArray, List.getElem_cons_succ, List.getElem_cons_zero])
            refine upTo_take (i := 3) (v := ?v33_3) rfl (by kernel_rfl) (by kernel_rfl) (by kernel_rfl) (by kernel_rfl) (by rfl) (fun _ _ _ h => h) (by rfl) hS0 ?hy33_3 ?rest33_3
            case hy33_3 => (intro u hu; (try dsimp only at hu); go_simp; first | done | with_reducible rfl)
            (try simp only [Act.put, List.setIfInBounds_toArray, List.set_cons_zero, List.set_cons_succ, List.getElem_toArray, List.getElem_cons_succ, List.getElem_cons_zero])
            refine upTo_take (i := 4) (v := ?v33_4) rfl (by kernel_rfl) (by kernel_rfl) (by kernel_rfl) (by kernel_rfl) (by rfl) (fun _ _ _ h => h) (by rfl) hS0 ?hy33_4 ?rest33_4
            case hy33_4 => (intro u hu; (try dsimp only at hu); go_simp; first | done | with_reducible rfl)
            (try simp only [Act.put, List.setIfInBounds_toArray, List.set_cons_zero, List.set_cons_succ, List.getElem_toArray, List.getElem_cons_succ, List.getElem_cons_zero])
            refine upTo_take (i := 5) (v := ?v33_5) rfl (by kernel_rfl) (by kernel_rfl) (by kernel_rfl) (by kernel_rfl) (by rfl) (fun _ _ _ h => h) (by rfl) hS0 ?hy33_5 ?rest33_5
            case hy33_5 => (intro u hu; (try dsimp only at hu); go_simp; first | done | with_reducible rfl)
            (try simp only [Act.put, List.setIfInBounds_toArray, List.set_cons_zero, List.set_cons_succ, List.getElem_toArray, List.getElem_cons_succ, List.getElem_cons_zero])
            refine upTo_one (i := 6) (by kernel_rfl) rfl (fun K hK => ?_)
            go_simp
            refine hK.out _ _ (fun _ => ⟨((HH.out.kept (below_kept ((Below.refl _ wq).alloc (Nat.le_refl _) _) (fun _ => False)) (fun _ _ e => e)).blk.cell 1), (HBx.out.alloc _).cell 0, (HBx.out.alloc _).cell 1, (HBx.out.alloc _).cell 2, (HBx.out.alloc _).cell 3, (HBx.out.alloc _).cell 4⟩) ?_
            clear hK K
            (try simp only [Act.put, List.setIfInBounds_toArray, List.set_cons_zero, List.set_cons_succ, List.getElem_toArray, List.getElem_cons_succ, List.getElem_cons_zero])
            refine upTo_one (i := 7) (by kernel_rfl) rfl (fun K hK => ?_)
            refine step_append_lies _ (by rfl) _ _ _ (by rfl) 0 37 j0 _ 5 40 Tryd.underlying32 hj0 hy0 hy1 hy2 rfl (by omega) (.slice G.da G.aside.length G.dc) G.aside.length (evs G.aside) (by rfl) (ownsRow_of_heap HRow.out (fun k hk => Below.heap_alloc _ _ _ hk))
              ⟨wq.heap.size, 0, none⟩ 1 1 E1.vals (by rfl) (by rfl) (World.news_of_block (cs := E1.vals.toArray) (t := 37) (fr := (0, 0)) (heap_alloc_new wq _)) (Ev.one E1)
              (by omega) (by unfold maxLen; omega) (by omega) (by omega) (wq.heap.size + 1) (by simp) ?_
            intro gg cap w1 hown1 hgrow hat hlt1
            have hb0 : Below wq.heap.size wq (wq.alloc (.cells E1.vals.toArray 37)).drew := ((Below.refl _ wq).alloc (Nat.le_refl _) _).drew
            obtain ⟨q0, hE⟩ := HH.out.appAsideE (cap := cap) hb0 hown1 hgrow hat
            obtain ⟨_, _, qk, _, _, _⟩ := HH.out.app (j := 2) hb0 rfl (by omega) hgrow hat
            have q4 := q0.frozen 1
            have HB1 : Hid (Blk w1 eb 37 E1.vals) := HBx.out.kept qk HNe.out
            have HE3 : Hid (EvoL wq gb G (w1.setCell ⟨gb, 1, none⟩ (.slice (some ⟨gg, 0, none⟩) (G.aside.length + 1) cap)) { G with aside := G.aside ++ [E1], da := some ⟨gg, 0, none⟩, dc := cap }) := hE
            clear hE qk
            refine hK.out _ _ (fun _ => ⟨q0.cell 1, HB1.out.cell 0, HB1.out.cell 1, HB1.out.cell 2, HB1.out.cell 3, HB1.out.cell 4⟩) ?_
            clear hK K hS0
            (try simp only [Act.put, List.setIfInBounds_toArray, List.set_cons_zero, List.set_cons_succ, List.getElem_toArray, List.getElem_cons_succ, List.getElem_cons_zero])
            refine upTo_one (i := 8) (by kernel_rfl) rfl (fun K hK => ?_)
            go_simp
            refine hK.out _ _ (fun _ => ⟨q0.cell 1, HB1.out.cell 0, HB1.out.cell 1, HB1.out.cell 2, HB1.out.cell 3, HB1.out.cell 4⟩) ?_
            clear hK K
            (try simp only [Act.put, List.setIfInBounds_toArray, List.set_cons_zero, List.set_cons_succ, List.getElem_toArray, List.getElem_cons_succ, List.getElem_cons_zero])
            refine upTo_one (i := 9) (by kernel_rfl) rfl (fun K hK => ?_)
            go_simp
            refine hK.out _ _ (fun _ => ⟨q0.cell 1, HB1.out.cell 0, HB1.out.cell 1, HB1.out.cell 2, HB1.out.cell 3, HB1.out.cell 4⟩) ?_
            clear hK K
            (try simp only [Act.put, List.setIfInBounds_toArray, List.set_cons_zero, List.set_cons_succ, List.getElem_toArray, List.getElem_cons_succ, List.getElem_cons_zero])
            have q5 := q0.cell 1
            simp only [List.getElem?_cons_succ, List.getElem?_cons_zero] at q5
            refine upTo_one (i := 10) (by kernel_rfl) rfl (fun K hK => ?_)
            go_simp
            refine hK.out _ _ (fun h => absurd rfl h) ?_
            clear hK K
            (try simp only [Act.put, List.setIfInBounds_toArray, List.set_cons_zero, List.set_cons_succ, List.getElem_toArray, List.getElem_cons_succ, List.getElem_cons_zero])
            refine upTo_done (by kernel_rfl) ?_
            have HPz : Hid (OneL w0 (w1.setCell ⟨gb, 1, none⟩ (.slice (some ⟨gg, 0, none⟩) (G.aside.length + 1) cap)) b gb bs X' { G with aside := G.aside ++ [E1], da := some ⟨gg, 0, none⟩, dc := cap }) := (HPq.out.evoL HE3.out).less (fun x hx => by simp [hx])
            clear q0 q4 q5 cx hown1 hgrow hat hlt1 hb0 HRow HB1 HE3
            generalize w1.setCell ⟨gb, 1, none⟩ (.slice (some ⟨gg, 0, none⟩) (G.aside.length + 1) cap) = wz at *
            go_wp2
            go_ret
            refine ⟨rfl, X', { G with aside := G.aside ++ [E1], da := some ⟨gg, 0, none⟩, dc := cap }, HPz.out, R', ⟨⟨_, HL'.out⟩, ?_, ?_, HSt.out, HNx.out, HRc.out⟩⟩
            · show G.all = _; rw [HAl.out, HKp.out.all]
            · show G.aside ++ [_] = _; rw [HAs.out, HKp.out.aside, ← HTk.out]
          · have hst : R.stays i E = true := by unfold Ref.stays; rw [HRcc.out, hp2]; simp
            obtain ⟨hal, has⟩ : R'.all = R.all ++ [R.taken i E] ∧ R'.aside = R.aside := by
              rcases HLd.out with ⟨_, h1, h2⟩ | ⟨h, _⟩ | ⟨h, _⟩
              · exact ⟨h1, h2⟩
              · rw [hst] at h; cases h
              · rw [hst] at h; cases h
            have HAl : Hid (R'.all = R.all ++ [R.taken i E]) := hal
            have HAs : Hid (R'.aside = R.aside) := has
            have hn1 : (R'.all.length : Int) = (R.all.length : Int) + 1 := by rw [HAl.out]; simp
            have hn2 : (R'.aside.length : Int) = (R.aside.length : Int) := by rw [HAs.out]
            have hgl : G.all.length ≤ 200 := by rw [HKp.out.all]; exact HBn.out.1
            have hwp : IntKind.i64.wrap ((R.all.length : Int) + 1) = (R.all.length : Int) + 1 := by rw [IntKind.wrap_i64]; have := HBn.out.1; omega
            clear hal has hst
            rw [hp2] at k2
            by_cases hms : E.ts < R.merged
            · obtain ⟨E2, HE2⟩ := hex ({ E1 with ts := R.merged } : Ev)
              have HTk : Hid (E2 = R.taken i E) := by show _ = _; rw [HE2.out, HE1.out]; unfold Ref.taken Ref.lifts; rw [HRcc.out, hp2, hlate]; simp [hms]
              have hmd : decide (E.ts < R.merged) = true := by simpa using hms
              have fe2 := (HP8.out.bx (eb, 37, E1.vals) (by simp)).frozen 2
              clear hlate
              go_upto_region 24 with fail
              have HP9 : Hid (OneL w0 (w8.setCell ⟨eb, 2, none⟩ (.int .i64 R.merged)) b gb ((eb, 37, E2.vals) :: (kb, 60, [.bool T.inn, .bool T.idle, .int .i64 T.mark, .int .i64 T.n, .int .i64 T.last]) :: (cb, 26, c.vals) :: bs) X' G) := by
                have := HP8.out.set 2 (.int .i64 R.merged) HEw.out HEn.out
                show OneL _ _ _ _ _ _ _
                rw [HE2.out]
                exact this
              clear fe2 e0 e1 e2 e3 e4
              generalize w8.setCell ⟨eb, 2, none⟩ (.int .i64 R.merged) = w9 at *
              go_upto_region 24 with fail
              obtain ⟨wq, HWq⟩ := hex w9
              rw [← HWq.out]
              have HPq : Hid (OneL w0 wq b gb ((eb, 37, E2.vals) :: (kb, 60, [.bool T.inn, .bool T.idle, .int .i64 T.mark, .int .i64 T.n, .int .i64 T.last]) :: (cb, 26, c.vals) :: bs) X' G) := by show OneL _ _ _ _ _ _ _; rw [HWq.out]; exact HP9.out
              clear HWq
              have HBx : Hid (Blk wq eb 37 E2.vals) := HPq.out.bx (eb, 37, E2.vals) (by simp)
              have HNe : Hid (¬ some eb ∈ G.fp gb) := HPq.out.ng (eb, 37, E2.vals) (by simp)
              have HH : Hid (MemL wq gb G) := HPq.out.ml
              have cx : wq.cell? ⟨gb, 0, none⟩ = some (.slice G.aa G.all.length G.ac) := HH.out.blk.cell 0
              have HRow : Hid (Row wq 37 5 G.aa G.all.length G.ac (evs G.all)) := HH.out.ra
              refine upTo_region (fun u : World => u.cell? ⟨gb, 0, none⟩ = some (.slice G.aa G.all.length G.ac) ∧ u.cell? ⟨eb, 0, none⟩ = some (.int .i64 E2.src) ∧ u.cell? ⟨eb, 1, none⟩ = some (.int .i64 E2.seq) ∧ u.cell? ⟨eb, 2, none⟩ = some (.int .i64 E2.ts) ∧ u.cell? ⟨eb, 3, none⟩ = some (.int .i64 E2.kind) ∧ u.cell? ⟨eb, 4, none⟩ = some (.int .i64 E2.val)) 10 11 rfl (by kernel_rfl) ?_
              have hS0 : (fun u : World => u.cell? ⟨gb, 0, none⟩ = some (.slice G.aa G.all.length G.ac) ∧ u.cell? ⟨eb, 0, none⟩ = some (.int .i64 E2.src) ∧ u.cell? ⟨eb, 1, none⟩ = some (.int .i64 E2.seq) ∧ u.cell? ⟨eb, 2, none⟩ = some (.int .i64 E2.ts) ∧ u.cell? ⟨eb, 3, none⟩ = some (.int .i64 E2.kind) ∧ u.cell? ⟨eb, 4, none⟩ = some (.int .i64 E2.val)) wq.drew := ⟨cx, HBx.out.cell 0, HBx.out.cell 1, HBx.out.cell 2, HBx.out.cell 3, HBx.out.cell 4⟩
              refine upTo_take (i := 0) (v := ?v34_0) rfl (by kernel_rfl) (by kernel_rfl) (by kernel_rfl) (by kernel_rfl) (by rfl) (fun _ _ _ h => h) (by rfl) hS0 ?hy34_0 ?rest34_0
              case hy34_0 => (intro u hu; (try dsimp only at hu); go_simp; first | done | with_reducible rfl)
              (try simp only [Act.put, List.setIfInBounds_toArray, List.set_cons_zero, List.set_cons_succ, List.getElem_toArray, List.getElem_cons_succ, List.getElem_cons_zero])
              refine upTo_take (i := 1) (v := ?v34_1) rfl (by kernel_rfl) (by kernel_rfl) (by kernel_rfl) (by kernel_rfl) (by rfl) (fun _ _ _ h => h) (by rfl) hS0 ?hy34_1 ?rest34_1
              case hy34_1 => (intro u hu; (try dsimp only at hu); go_simp; first | done | with_reducible rfl)
              (try simp only [Act.put, List.setIfInBounds_toArray, List.set_cons_zero, List.set_cons_succ, List.getElem_toArray, List.getElem_cons_succ, List.getElem_cons_zero])
              refine upTo_take (i := 2) (v := ?v34_2) rfl (by kernel_rfl) (by kernel_rfl) (by kernel_rfl) (by kernel_rfl) (by rfl) (fun _ _ _ h => h) (by rfl) hS0 ?hy34_2 ?rest34_2
              case hy34_2 => (intro u hu; (try dsimp only at hu); go_simp; first | done | with_reducible rfl)
              (try simp only [Act.put, List.setIfInBounds_toArray, List.set_cons_zero, List.set_cons_succ, List.getElem_toArray, List.getElem_cons_succ, List.getElem_cons_zero])
              refine upTo_take (i := 3) (v := ?v34_3) rfl (by kernel_rfl) (by kernel_rfl) (by kernel_rfl) (by kernel_rfl) (by rfl) (fun _ _ _ h => h) (by rfl) hS0 ?hy34_3 ?rest34_3
              case hy34_3 => (intro u hu; (try dsimp only at hu); go_simp; first | done | with_reducible rfl)
              (try simp only [Act.put, List.setIfInBounds_toArray, List.set_cons_zero, List.set_cons_succ, List.getElem_toArray, List.getElem_cons_succ, List.getElem_cons_zero])
              refine upTo_take (i := 4) (v := ?v34_4) rfl (by kernel_rfl) (by kernel_rfl) (by kernel_rfl) (by kernel_rfl) (by rfl) (fun _ _ _ h => h) (by rfl) hS0 ?hy34_4 ?rest34_4
              case hy34_4 => (intro u hu; (try dsimp only at hu); go_simp; first | done | with_reducible rfl)
              (try simp only [Act.put, List.setIfInBounds_toArray, List.set_cons_zero, List.set_cons_succ, List.getElem_toArray, List.getElem_cons_succ, List.getElem_cons_zero])
              refine upTo_take (i := 5) (v := ?v34_5) rfl (by kernel_rfl) (by kernel_rfl) (by kernel_rfl) (by kernel_rfl) (by rfl) (fun _ _ _ h => h) (by rfl) hS0 ?hy34_5 ?rest34_5
              case hy34_5 => (intro u hu; (try dsimp only at hu); go_simp; first | done | with_reducible rfl)
              (try simp only [Act.put, List.setIfInBounds_toArray, List.set_cons_zero, List.set_cons_succ, List.getElem_toArray, List.getElem_cons_succ, List.getElem_cons_zero])
              refine upTo_one (i := 6) (by kernel_rfl) rfl (fun K hK => ?_)
              go_simp
              refine hK.out _ _ (fun _ => ⟨((HH.out.kept (below_kept ((Below.refl _ wq).alloc (Nat.le_refl _) _) (fun _ => False)) (fun _ _ e => e)).blk.cell 0), (HBx.out.alloc _).cell 0, (HBx.out.alloc _).cell 1, (HBx.out.alloc _).cell 2, (HBx.out.alloc _).cell 3, (HBx.out.alloc _).cell 4⟩) ?_
              clear hK K
              (try simp only [Act.put, List.setIfInBounds_toArray, List.set_cons_zero, List.set_cons_succ, List.getElem_toArray, List.getElem_cons_succ, List.getElem_cons_zero])
              refine upTo_one (i := 7) (by kernel_rfl) rfl (fun K hK => ?_)
              refine step_append_lies _ (by rfl) _ _ _ (by rfl) 0 37 j0 _ 5 40 Tryd.underlying32 hj0 hy0 hy1 hy2 rfl (by omega) (.slice G.aa G.all.length G.ac) G.all.length (evs G.all) (by rfl) (ownsRow_of_heap HRow.out (fun k hk => Below.heap_alloc _ _ _ hk))
                ⟨wq.heap.size, 0, none⟩ 1 1 E2.vals (by rfl) (by rfl) (World.news_of_block (cs := E2.vals.toArray) (t := 37) (fr := (0, 0)) (heap_alloc_new wq _)) (Ev.one E2)
                (by omega) (by unfold maxLen; omega) (by omega) (by omega) (wq.heap.size + 1) (by simp) ?_
              intro gg cap w1 hown1 hgrow hat hlt1
              have hb0 : Below wq.heap.size wq (wq.alloc (.cells E2.vals.toArray 37)).drew := ((Below.refl _ wq).alloc (Nat.le_refl _) _).drew
              obtain ⟨q0, hE⟩ := HH.out.appAllE (cap := cap) hb0 hown1 hgrow hat
              obtain ⟨_, _, qk, _, _, _⟩ := HH.out.app (j := 1) hb0 rfl (by omega) hgrow hat
              have q4 := q0.frozen 0
              have HB1 : Hid (Blk w1 eb 37 E2.vals) := HBx.out.kept qk HNe.out
              have HE3 : Hid (EvoL wq gb G (w1.setCell ⟨gb, 0, none⟩ (.slice (some ⟨gg, 0, none⟩) (G.all.length + 1) cap)) { G with all := G.all ++ [E2], aa := some ⟨gg, 0, none⟩, ac := cap }) := hE
              clear hE qk
              refine hK.out _ _ (fun _ => ⟨q0.cell 0, HB1.out.cell 0, HB1.out.cell 1, HB1.out.cell 2, HB1.out.cell 3, HB1.out.cell 4⟩) ?_
              clear hK K hS0
              (try simp only [Act.put, List.setIfInBounds_toArray, List.set_cons_zero, List.set_cons_succ, List.getElem_toArray, List.getElem_cons_succ, List.getElem_cons_zero])
              refine upTo_one (i := 8) (by kernel_rfl) rfl (fun K hK => ?_)
              go_simp
              refine hK.out _ _ (fun _ => ⟨q0.cell 0, HB1.out.cell 0, HB1.out.cell 1, HB1.out.cell 2, HB1.out.cell 3, HB1.out.cell 4⟩) ?_
              clear hK K
              (try simp only [Act.put, List.setIfInBounds_toArray, List.set_cons_zero, List.set_cons_succ, List.getElem_toArray, List.getElem_cons_succ, List.getElem_cons_zero])
              refine upTo_one (i := 9) (by kernel_rfl) rfl (fun K hK => ?_)
              go_simp
              refine hK.out _ _ (fun _ => ⟨q0.cell 0, HB1.out.cell 0, HB1.out.cell 1, HB1.out.cell 2, HB1.out.cell 3, HB1.out.cell 4⟩) ?_
              clear hK K
              (try simp only [Act.put, List.setIfInBounds_toArray, List.set_cons_zero, List.set_cons_succ, List.getElem_toArray, List.getElem_cons_succ, List.getElem_cons_zero])
              have q5 := q0.cell 0
              simp only [List.getElem?_cons_succ, List.getElem?_cons_zero] at q5
              refine upTo_one (i := 10) (by kernel_rfl) rfl (fun K hK => ?_)
              go_simp
              refine hK.out _ _ (fun h => absurd rfl h) ?_
              clear hK K
              (try simp only [Act.put, List.setIfInBounds_toArray, List.set_cons_zero, List.set_cons_succ, List.getElem_toArray, List.getElem_cons_succ, List.getElem_cons_zero])
              refine upTo_done (by kernel_rfl) ?_
              have HPz : Hid (OneL w0 (w1.setCell ⟨gb, 0, none⟩ (.slice (some ⟨gg, 0, none⟩) (G.all.length + 1) cap)) b gb bs X' { G with all := G.all ++ [E2], aa := some ⟨gg, 0, none⟩, ac := cap }) := (HPq.out.evoL HE3.out).less (fun x hx => by simp [hx])
              clear q0 q4 q5 cx hown1 hgrow hat hlt1 hb0 HRow HB1 HE3
              generalize w1.setCell ⟨gb, 0, none⟩ (.slice (some ⟨gg, 0, none⟩) (G.all.length + 1) cap) = wz at *
              go_wp2
              go_ret
              refine ⟨rfl, X', { G with all := G.all ++ [E2], aa := some ⟨gg, 0, none⟩, ac := cap }, HPz.out, R', ⟨⟨_, HL'.out⟩, ?_, ?_, HSt.out, HNx.out, HRc.out⟩⟩
              · show G.all ++ [_] = _; rw [HAl.out, HKp.out.all, ← HTk.out]
              · show G.aside = _; rw [HAs.out, HKp.out.aside]
            · exact absurd hlt hms
        · have hlate : R.late i E = false := by unfold Ref.late; rw [hbd]; simpa using hlt
          have hld : decide (E.ts < R.merged) = false := by simpa using hlt
          have hst : R.stays i E = true := by unfold Ref.stays; rw [hlate]; rfl
          obtain ⟨hal, has⟩ : R'.all = R.all ++ [R.taken i E] ∧ R'.aside = R.aside := by
            rcases HLd.out with ⟨_, h1, h2⟩ | ⟨h, _⟩ | ⟨h, _⟩
            · exact ⟨h1, h2⟩
            · rw [hst] at h; cases h
            · rw [hst] at h; cases h
          have HTk : Hid (E1 = R.taken i E) := by show _ = _; rw [HE1.out]; unfold Ref.taken Ref.lifts; rw [hlate]; simp
          have HAl : Hid (R'.all = R.all ++ [R.taken i E]) := hal
          have HAs : Hid (R'.aside = R.aside) := has
          have hn1 : (R'.all.length : Int) = (R.all.length : Int) + 1 := by rw [HAl.out]; simp
          have hn2 : (R'.aside.length : Int) = (R.aside.length : Int) := by rw [HAs.out]
          have hgl : G.all.length ≤ 200 := by rw [HKp.out.all]; exact HBn.out.1
          have hwp : IntKind.i64.wrap ((R.all.length : Int) + 1) = (R.all.length : Int) + 1 := by rw [IntKind.wrap_i64]; have := HBn.out.1; omega
          clear hal has hlate hst
          go_upto_region 24 with fail
          obtain ⟨wq, HWq⟩ := hex w8
          rw [← HWq.out]
          have HPq : Hid (OneL w0 wq b gb ((eb, 37, E1.vals) :: (kb, 60, [.bool T.inn, .bool T.idle, .int .i64 T.mark, .int .i64 T.n, .int .i64 T.last]) :: (cb, 26, c.vals) :: bs) X' G) := by show OneL _ _ _ _ _ _ _; rw [HWq.out]; exact HP8.out
          clear HWq
          have HBx : Hid (Blk wq eb 37 E1.vals) := HPq.out.bx (eb, 37, E1.vals) (by simp)
          have HNe : Hid (¬ some eb ∈ G.fp gb) := HPq.out.ng (eb, 37, E1.vals) (by simp)
          have HH : Hid (MemL wq gb G) := HPq.out.ml
          have cx : wq.cell? ⟨gb, 0, none⟩ = some (.slice G.aa G.all.length G.ac) := HH.out.blk.cell 0
          have HRow : Hid (Row wq 37 5 G.aa G.all.length G.ac (evs G.all)) := HH.out.ra
          refine upTo_region (fun u : World => u.cell? ⟨gb, 0, none⟩ = some (.slice G.aa G.all.length G.ac) ∧ u.cell? ⟨eb, 0, none⟩ = some (.int .i64 E1.src) ∧ u.cell? ⟨eb, 1, none⟩ = some (.int .i64 E1.seq) ∧ u.cell? ⟨eb, 2, none⟩ = some (.int .i64 E1.ts) ∧ u.cell? ⟨eb, 3, none⟩ = some (.int .i64 E1.kind) ∧ u.cell? ⟨eb, 4, none⟩ = some (.int .i64 E1.val)) 10 11 rfl (by kernel_rfl) ?_
          have hS0 : (fun u : World => u.cell? ⟨gb, 0, none⟩ = some (.slice G.aa G.all.length G.ac) ∧ u.cell? ⟨eb, 0, none⟩ = some (.int .i64 E1.src) ∧ u.cell? ⟨eb, 1, none⟩ = some (.int .i64 E1.seq) ∧ u.cell? ⟨eb, 2, none⟩ = some (.int .i64 E1.ts) ∧ u.cell? ⟨eb, 3, none⟩ = some (.int .i64 E1.kind) ∧ u.cell? ⟨eb, 4, none⟩ = some (.int .i64 E1.val)) wq.drew := ⟨cx, HBx.out.cell 0, HBx.out.cell 1, HBx.out.cell 2, HBx.out.cell 3, HBx.out.cell 4⟩
          refine upTo_take (i := 0) (v := ?v35_0) rfl (by kernel_rfl) (by kernel_rfl) (by kernel_rfl) (by kernel_rfl) (by rfl) (fun _ _ _ h => h) (by rfl) hS0 ?hy35_0 ?rest35_0
          case hy35_0 => (intro u hu; (try dsimp only at hu); go_simp; first | done | with_reducible rfl)
          (try simp only [Act.put, List.setIfInBounds_toArray, List.set_cons_zero, List.set_cons_succ, List.getElem_toArray, List.getElem_cons_succ, List.getElem_cons_zero])
          refine upTo_take (i := 1) (v := ?v35_1) rfl (by kernel_rfl) (by kernel_rfl) (by kernel_rfl) (by kernel_rfl) (by rfl) (fun _ _ _ h => h) (by rfl) hS0 ?hy35_1 ?rest35_1
          case hy35_1 => (intro u hu; (try dsimp only at hu); go_simp; first | done | with_reducible rfl)
          (try simp only [Act.put, List.setIfInBounds_toArray, List.set_cons_zero, List.set_cons_succ, List.getElem_toArray, List.getElem_cons_succ, List.getElem_cons_zero])
          refine upTo_take (i := 2) (v := ?v35_2) rfl (by kernel_rfl) (by kernel_rfl) (by kernel_rfl) (by kernel_rfl) (by rfl) (fun _ _ _ h => h) (by rfl) hS0 ?hy35_2 ?rest35_2
          case hy35_2 => (intro u hu; (try dsimp only at hu); go_simp; first | done | with_reducible rfl)
          (try simp only [Act.put, List.setIfInBounds_toArray, List.set_cons_zero, List.set_cons_succ, List.getElem_toArray, List.getElem_cons_succ, List.getElem_cons_zero])
          refine upTo_take (i := 3) (v := ?v35_3) rfl (by kernel_rfl) (by kernel_rfl) (by kernel_rfl) (by kernel_rfl) (by rfl) (fun _ _ _ h => h) (by rfl) hS0 ?hy35_3 ?rest35_3
          case hy35_3 => (intro u hu; (try dsimp only at hu); go_simp; first | done | with_reducible rfl)
          (try simp only [Act.put, List.setIfInBounds_toArray, List.set_cons_zero, List.set_cons_succ, List.getElem_toArray, List.getElem_cons_succ, List.getElem_cons_zero])
          refine upTo_take (i := 4) (v := ?v35_4) rfl (by kernel_rfl) (by kernel_rfl) (by kernel_rfl) (by kernel_rfl) (by rfl) (fun _ _ _ h => h) (by rfl) hS0 ?hy35_4 ?rest35_4
          case hy35_4 => (intro u hu; (try dsimp only at hu); go_simp; first | done | with_reducible rfl)
          (try simp only [Act.put, List.setIfInBounds_toArray, List.set_cons_zero, List.set_cons_succ, List.getElem_toArray, List.getElem_cons_succ, List.getElem_cons_zero])
          refine upTo_take (i := 5) (v := ?v35_5) rfl (by kernel_rfl) (by kernel_rfl) (by kernel_rfl) (by kernel_rfl) (by rfl) (fun _ _ _ h => h) (by rfl) hS0 ?hy35_5 ?rest35_5
          case hy35_5 => (intro u hu; (try dsimp only at hu); go_simp; first | done | with_reducible rfl)
          (try simp only [Act.put, List.setIfInBounds_toArray, List.set_cons_zero, List.set_cons_succ, List.getElem_toArray, List.getElem_cons_succ, List.getElem_cons_zero])
          refine upTo_one (i := 6) (by kernel_rfl) rfl (fun K hK => ?_)
          go_simp
          refine hK.out _ _ (fun _ => ⟨((HH.out.kept (below_kept ((Below.refl _ wq).alloc (Nat.le_refl _) _) (fun _ => False)) (fun _ _ e => e)).blk.cell 0), (HBx.out.alloc _).cell 0, (HBx.out.alloc _).cell 1, (HBx.out.alloc _).cell 2, (HBx.out.alloc _).cell 3, (HBx.out.alloc _).cell 4⟩) ?_
          clear hK K
          (try simp only [Act.put, List.setIfInBounds_toArray, List.set_cons_zero, List.set_cons_succ, List.getElem_toArray, List.getElem_cons_succ, List.getElem_cons_zero])
          refine upTo_one (i := 7) (by kernel_rfl) rfl (fun K hK => ?_)
          refine step_append_lies _ (by rfl) _ _ _ (by rfl) 0 37 j0 _ 5 40 Tryd.underlying32 hj0 hy0 hy1 hy2 rfl (by omega) (.slice G.aa G.all.length G.ac) G.all.length (evs G.all) (by rfl) (ownsRow_of_heap HRow.out (fun k hk => Below.heap_alloc _ _ _ hk))
            ⟨wq.heap.size, 0, none⟩ 1 1 E1.vals (by rfl) (by rfl) (World.news_of_block (cs := E1.vals.toArray) (t := 37) (fr := (0, 0)) (heap_alloc_new wq _)) (Ev.one E1)
            (by omega) (by unfold maxLen; omega) (by omega) (by omega) (wq.heap.size + 1) (by simp) ?_
          intro gg cap w1 hown1 hgrow hat hlt1
          have hb0 : Below wq.heap.size wq (wq.alloc (.cells E1.vals.toArray 37)).drew := ((Below.refl _ wq).alloc (Nat.le_refl _) _).drew
          obtain ⟨q0, hE⟩ := HH.out.appAllE (cap := cap) hb0 hown1 hgrow hat
          obtain ⟨_, _, qk, _, _, _⟩ := HH.out.app (j := 1) hb0 rfl (by omega) hgrow hat
          have q4 := q0.frozen 0
          have HB1 : Hid (Blk w1 eb 37 E1.vals) := HBx.out.kept qk HNe.out
          have HE3 : Hid (EvoL wq gb G (w1.setCell ⟨gb, 0, none⟩ (.slice (some ⟨gg, 0, none⟩) (G.all.length + 1) cap)) { G with all := G.all ++ [E1], aa := some ⟨gg, 0, none⟩, ac := cap }) := hE
          clear hE qk
          refine hK.out _ _ (fun _ => ⟨q0.cell 0, HB1.out.cell 0, HB1.out.cell 1, HB1.out.cell 2, HB1.out.cell 3, HB1.out.cell 4⟩) ?_
          clear hK K hS0
          (try simp only [Act.put, List.setIfInBounds_toArray, List.set_cons_zero, List.set_cons_succ, List.getElem_toArray, List.getElem_cons_succ, List.getElem_cons_zero])
          refine upTo_one (i := 8) (by kernel_rfl) rfl (fun K hK => ?_)
          go_simp
          refine hK.out _ _ (fun _ => ⟨q0.cell 0, HB1.out.cell 0, HB1.out.cell 1, HB1.out.cell 2, HB1.out.cell 3, HB1.out.cell 4⟩) ?_
          clear hK K
          (try simp only [Act.put, List.setIfInBounds_toArray, List.set_cons_zero, List.set_cons_succ, List.getElem_toArray, List.getElem_cons_succ, List.getElem_cons_zero])
          refine upTo_one (i := 9) (by kernel_rfl) rfl (fun K hK => ?_)
          go_simp
          refine hK.out _ _ (fun _ => ⟨q0.cell 0, HB1.out.cell 0, HB1.out.cell 1, HB1.out.cell 2, HB1.out.cell 3, HB1.out.cell 4⟩) ?_
          clear hK K
          (try simp only [Act.put, List.setIfInBounds_toArray, List.set_cons_zero, List.set_cons_succ, List.getElem_toArray, List.getElem_cons_succ, List.getElem_cons_zero])
          have q5 := q0.cell 0
          simp only [List.getElem?_cons_succ, List.getElem?_cons_zero] at q5
          refine upTo_one (i := 10) (by kernel_rfl) rfl (fun K hK => ?_)
          go_simp
          refine hK.out _ _ (fun h => absurd rfl h) ?_
          clear hK K
          (try simp only [Act.put, List.setIfInBounds_toArray, List.set_cons_zero, List.set_cons_succ, List.getElem_toArray, List.getElem_cons_succ, List.getElem_cons_zero])
          refine upTo_done (by kernel_rfl) ?_
          have HPz : Hid (OneL w0 (w1.setCell ⟨gb, 0, none⟩ (.slice (some ⟨gg, 0, none⟩) (G.all.length + 1) cap)) b gb bs X' { G with all := G.all ++ [E1], aa := some ⟨gg, 0, none⟩, ac := cap }) := (HPq.out.evoL HE3.out).less (fun x hx => by simp [hx])
          clear q0 q4 q5 cx hown1 hgrow hat hlt1 hb0 HRow HB1 HE3
          generalize w1.setCell ⟨gb, 0, none⟩ (.slice (some ⟨gg, 0, none⟩) (G.all.length + 1) cap) = wz at *
          go_wp2
          go_ret
          refine ⟨rfl, X', { G with all := G.all ++ [E1], aa := some ⟨gg, 0, none⟩, ac := cap }, HPz.out, R', ⟨⟨_, HL'.out⟩, ?_, ?_, HSt.out, HNx.out, HRc.out⟩⟩
          · show G.all ++ [_] = _; rw [HAl.out, HKp.out.all, ← HTk.out]
          · show G.aside = _; rw [HAs.out, HKp.out.aside]
      · have hbd : R.bound i = T.mark := by unfold Ref.bound; rw [← HT1.out, hid, ← HT2.out]; simp [hgt]
        have hgd : decide (T.mark < R.merged) = false := by simpa using hgt
        clear hid
        go_upto_region 15 with fail
        have fe0 := (HP7.out.bx (eb, 37, E.vals) (by simp)).frozen 0
        go_upto_region 16 with fail
        obtain ⟨E1, HE1⟩ := hex ({ E with src := i } : Ev)
        have HP8 : Hid (OneL w0 (w7.setCell ⟨eb, 0, none⟩ (.int .i64 i)) b gb ((eb, 37, E1.vals) :: (kb, 60, [.bool T.inn, .bool T.idle, .int .i64 T.mark, .int .i64 T.n, .int .i64 T.last]) :: (cb, 26, c.vals) :: bs) X' G) := by
          have := HP7.out.set 0 (.int .i64 i) HEw.out HEn.out
          show OneL _ _ _ _ _ _ _
          rw [HE1.out]
          exact this
        clear fe0 e0 e1 e2 e3 e4 k0 k1 k2 k3 k4 k5 s0 s1 s2 s3 s4
        generalize w7.setCell ⟨eb, 0, none⟩ (.int .i64 i) = w8 at *
        have k0 := (HP8.out.bx (cb, 26, c.vals) (by simp)).cell 0
        have k1 := (HP8.out.bx (cb, 26, c.vals) (by simp)).cell 1
        have k2 := (HP8.out.bx (cb, 26, c.vals) (by simp)).cell 2
        have k3 := (HP8.out.bx (cb, 26, c.vals) (by simp)).cell 3
        have k4 := (HP8.out.bx (cb, 26, c.vals) (by simp)).cell 4
        have k5 := (HP8.out.bx (cb, 26, c.vals) (by simp)).cell 5
        simp only [Cfg.vals, List.getElem?_cons_zero, List.getElem?_cons_succ] at k0 k1 k2 k3 k4 k5
        have e0 := (HP8.out.bx (eb, 37, E1.vals) (by simp)).cell 0
        have e1 := (HP8.out.bx (eb, 37, E1.vals) (by simp)).cell 1
        have e2 := (HP8.out.bx (eb, 37, E1.vals) (by simp)).cell 2
        have e3 := (HP8.out.bx (eb, 37, E1.vals) (by simp)).cell 3
        have e4 := (HP8.out.bx (eb, 37, E1.vals) (by simp)).cell 4
        simp only [Ev.vals, List.getElem?_cons_zero, List.getElem?_cons_succ] at e0 e1 e2 e3 e4
        have he2 : E1.ts = E.ts := by rw [HE1.out]
        rw [he2] at e2
        clear he2
        by_cases hlt : E.ts < T.mark
        · have hlate : R.late i E = true := by unfold Ref.late; rw [hbd]; simpa using hlt
          have hld : decide (E.ts < T.mark) = true := by simpa using hlt
          have hp : R.c.policy = 0 ∨ R.c.policy = 1 ∨ R.c.policy = 2 := by have := HPo.out; omega
          rw [HRcc.out] at hp
          rcases hp with hp0 | hp1 | hp2
          · have hst : R.stays i E = false := by unfold Ref.stays; rw [hlate, HRcc.out, hp0]; decide
            obtain ⟨hal, has⟩ : R'.all = R.all ∧ R'.aside = R.aside := by
              rcases HLd.out with ⟨h, _, _⟩ | ⟨_, h, _⟩ | ⟨_, _, h1, h2⟩
              · rw [hst] at h; cases h
              · rw [HRcc.out, hp0] at h; cases h
              · exact ⟨h1, h2⟩
            have HAl : Hid (R'.all = R.all) := hal
            have HAs : Hid (R'.aside = R.aside) := has
            have hn1 : (R'.all.length : Int) = (R.all.length : Int) := by rw [HAl.out]
            have hn2 : (R'.aside.length : Int) = (R.aside.length : Int) := by rw [HAs.out]
            clear hal has hlate hst
            rw [hp0] at k2
            go_wp2
            go_ret
            exact ⟨rfl, X', G, HP8.out.less (fun x hx => by simp [hx]), R', ⟨⟨_, HL'.out⟩, HKp.out.all.trans HAl.out.symm, HKp.out.aside.trans HAs.out.symm, HSt.out, HNx.out, HRc.out⟩⟩
          · have hst : R.stays i E = false := by unfold Ref.stays; rw [hlate, HRcc.out, hp1]; decide
            obtain ⟨hal, has⟩ : R'.all = R.all ∧ R'.aside = R.aside ++ [R.taken i E] := by
              rcases HLd.out with ⟨h, _, _⟩ | ⟨_, _, h1, h2⟩ | ⟨_, h, _⟩
              · rw [hst] at h; cases h
              · exact ⟨h1, h2⟩
              · exact absurd (HRcc.out ▸ hp1 : R.c.policy = 1) h
            have HTk : Hid (E1 = R.taken i E) := by show _ = _; rw [HE1.out]; unfold Ref.taken Ref.lifts; rw [HRcc.out, hp1]; simp
            have HAl : Hid (R'.all = R.all) := hal
            have HAs : Hid (R'.aside = R.aside ++ [R.taken i E]) := has
            have hn1 : (R'.all.length : Int) = (R.all.length : Int) := by rw [HAl.out]
            have hn2 : (R'.aside.length : Int) = (R.aside.length : Int) + 1 := by rw [HAs.out]; simp
            have hgl : G.aside.length ≤ 200 := by rw [HKp.out.aside]; exact HBn.out.2
            have hwp : IntKind.i64.wrap ((R.aside.length : Int) + 1) = (R.aside.length : Int) + 1 := by rw [IntKind.wrap_i64]; have := HBn.out.2; omega
            clear hal has hlate hst
            rw [hp1] at k2
            go_upto_region 20 with fail
            obtain ⟨wq, HWq⟩ := hex w8
            rw [← HWq.out]
            have HPq : Hid (OneL w0 wq b gb ((eb, 37, E1.vals) :: (kb, 60, [.bool T.inn, .bool T.idle, .int .i64 T.mark, .int .i64 T.n, .int .i64 T.last]) :: (cb, 26, c.vals) :: bs) X' G) := by show OneL _ _ _ _ _ _ _; rw [HWq.out]; exact HP8.out
            clear HWq
            have HBx : Hid (Blk wq eb 37 E1.vals) := HPq.out.bx (eb, 37, E1.vals) (by simp)
            have HNe : Hid (¬ some eb ∈ G.fp gb) := HPq.out.ng (eb, 37, E1.vals) (by simp)
            have HH : Hid (MemL wq gb G) := HPq.out.ml
            have cx : wq.cell? ⟨gb, 1, none⟩ = some (.slice G.da G.aside.length G.dc) := HH.out.blk.cell 1
            have HRow : Hid (Row wq 37 5 G.da G.aside.length G.dc (evs G.aside)) := HH.out.rd
            refine upTo_region (fun u : World => u.cell? ⟨gb, 1, none⟩ = some (.slice G.da G.aside.length G.dc) ∧ u.cell? ⟨eb, 0, none⟩ = some (.int .i64 E1.src) ∧ u.cell? ⟨eb, 1, none⟩ = some (.int .i64 E1.seq) ∧ u.cell? ⟨eb, 2, none⟩ = some (.int .i64 E1.ts) ∧ u.cell? ⟨eb, 3, none⟩ = some (.int .i64 E1.kind) ∧ u.cell? ⟨eb, 4, none⟩ = some (.int .i64 E1.val)) 10 11 rfl (by kernel_rfl) ?_
            have hS0 : (fun u : World => u.cell? ⟨gb, 1, none⟩ = some (.slice G.da G.aside.length G.dc) ∧ u.cell? ⟨eb, 0, none⟩ = some (.int .i64 E1.src) ∧ u.cell? ⟨eb, 1, none⟩ = some (.int .i64 E1.seq) ∧ u.cell? ⟨eb, 2, none⟩ = some (.int .i64 E1.ts) ∧ u.cell? ⟨eb, 3, none⟩ = some (.int .i64 E1.kind) ∧ u.cell? ⟨eb, 4, none⟩ = some (.int .i64 E1.val)) wq.drew := ⟨cx, HBx.out.cell 0, HBx.out.cell 1, HBx.out.cell 2, HBx.out.cell 3, HBx.out.cell 4⟩
            refine upTo_take (i := 0) (v := ?v36_0) rfl (by kernel_rfl) (by kernel_rfl) (by kernel_rfl) (by kernel_rfl) (by rfl) (fun _ _ _ h => h) (by rfl) hS0 ?hy36_0 ?rest36_0
            case hy36_0 => (intro u hu; (try dsimp only at hu); go_simp; first | done | with_reducible rfl)
            (try simp only [Act.put, List.setIfInBounds_toArray, List.set_cons_zero, List.set_cons_succ, List.getElem_toArray, List.getElem_cons_succ, List.getElem_cons_zero])
            refine upTo_take (i := 1) (v := ?v36_1) rfl (by kernel_rfl) (by kernel_rfl) (by kernel_rfl) (by kernel_rfl) (by rfl) (fun _ _ _ h => h) (by rfl) hS0 ?hy36_1 ?rest36_1
            case hy36_1 => (intro u hu; (try dsimp only at hu); go_simp; first | done | with_reducible rfl)
            (try simp only [Act.put, List.setIfInBounds_toArray, List.set_cons_zero, List.set_cons_succ, List.getElem_toArray, List.getElem_cons_succ, List.getElem_cons_zero])
            refine upTo_take (i := 2) (v := ?v36_2) rfl (by kernel_rfl) (by kernel_rfl) (by kernel_rfl) (by kernel_rfl) (by rfl) (fun _ _ _ h => h) (by rfl) hS0 ?hy36_2 ?rest36_2
            case hy36_2 => (intro u hu; (try dsimp only at hu); go_simp; first | done | with_reducible rfl)
            (try simp only [Act.put, List.setIfInBounds_toArray, List.set_cons_zero, List.set_cons_succ, List.getElem_toArray, List.getElem_cons_succ, List.getElem_cons_zero])
            refine upTo_take (i := 3) (v := ?v36_3) rfl (by kernel_rfl) (by kernel_rfl) (by kernel_rfl) (by kernel_rfl) (by rfl) (fun _ _ _ h => h) (by rfl) hS0 ?hy36_3 ?rest36_3
            case hy36_3 => (intro u hu; (try dsimp only at hu); go_simp; first | done | with_reducible rfl)
            (try simp only [Act.put, List.setIfInBounds_toArray, List.set_cons_zero, List.set_cons_succ, List.getElem_toArray, List.getElem_cons_succ, List.getElem_cons_zero])
            refine upTo_take (i := 4) (v := ?v36_4) rfl (by kernel_rfl) (by kernel_rfl) (by kernel_rfl) (by kernel_rfl) (by rfl) (fun _ _ _ h => h) (by rfl) hS0 ?hy36_4 ?rest36_4
            case hy36_4 => (intro u hu; (try dsimp only at hu); go_simp; first | done | with_reducible rfl)
            (try simp only [Act.put, List.setIfInBounds_toArray, List.set_cons_zero, List.set_cons_succ, List.getElem_toArray, List.getElem_cons_succ, List.getElem_cons_zero])
            refine upTo_take (i := 5) (v := ?v36_5) rfl (by kernel_rfl) (by kernel_rfl) (by kernel_rfl) (by kernel_rfl) (by rfl) (fun _ _ _ h => h) (by rfl) hS0 ?hy36_5 ?rest36_5
            case hy36_5 => (intro u hu; (try dsimp only at hu); go_simp; first | done | with_reducible rfl)
            (try simp only [Act.put, List.setIfInBounds_toArray, List.set_cons_zero, List.set_cons_succ, List.getElem_toArray, List.getElem_cons_succ, List.getElem_cons_zero])
            refine upTo_one (i := 6) (by kernel_rfl) rfl (fun K hK => ?_)
            go_simp
            refine hK.out _ _ (fun _ => ⟨((HH.out.kept (below_kept ((Below.refl _ wq).alloc (Nat.le_refl _) _) (fun _ => False)) (fun _ _ e => e)).blk.cell 1), (HBx.out.alloc _).cell 0, (HBx.out.alloc _).cell 1, (HBx.out.alloc _).cell 2, (HBx.out.alloc _).cell 3, (HBx.out.alloc _).cell 4⟩) ?_
            clear hK K
            (try simp only [Act.put, List.setIfInBounds_toArray, List.set_cons_zero, List.set_cons_succ, List.getElem_toArray, List.getElem_cons_succ, List.getElem_cons_zero])
            refine upTo_one (i := 7) (by kernel_rfl) rfl (fun K hK => ?_)
            refine step_append_lies _ (by rfl) _ _ _ (by rfl) 0 37 j0 _ 5 40 Tryd.underlying32 hj0 hy0 hy1 hy2 rfl (by omega) (.slice G.da G.aside.length G.dc) G.aside.length (evs G.aside) (by rfl) (ownsRow_of_heap HRow.out (fun k hk => Below.heap_alloc _ _ _ hk))
              ⟨wq.heap.size, 0, none⟩ 1 1 E1.vals (by rfl) (by rfl) (World.news_of_block (cs := E1.vals.toArray) (t := 37) (fr := (0, 0)) (heap_alloc_new wq _)) (Ev.one E1)
              (by omega) (by unfold maxLen; omega) (by omega) (by omega) (wq.heap.size + 1) (by simp) ?_
            intro gg cap w1 hown1 hgrow hat hlt1
            have hb0 : Below wq.heap.size wq (wq.alloc (.cells E1.vals.toArray 37)).drew := ((Below.refl _ wq).alloc (Nat.le_refl _) _).drew
            obtain ⟨q0, hE⟩ := HH.out.appAsideE (cap := cap) hb0 hown1 hgrow hat
            obtain ⟨_, _, qk, _, _, _⟩ := HH.out.app (j := 2) hb0 rfl (by omega) hgrow hat
            have q4 := q0.frozen 1
            have HB1 : Hid (Blk w1 eb 37 E1.vals) := HBx.out.kept qk HNe.out
            have HE3 : Hid (EvoL wq gb G (w1.setCell ⟨gb, 1, none⟩ (.slice (some ⟨gg, 0, none⟩) (G.aside.length + 1) cap)) { G with aside := G.aside ++ [E1], da := some ⟨gg, 0, none⟩, dc := cap }) := hE
            clear hE qk
            refine hK.out _ _ (fun _ => ⟨q0.cell 1, HB1.out.cell 0, HB1.out.cell 1, HB1.out.cell 2, HB1.out.cell 3, HB1.out.cell 4⟩) ?_
            clear hK K hS0
            (try simp only [Act.put, List.setIfInBounds_toArray, List.set_cons_zero, List.set_cons_succ, List.getElem_toArray, List.getElem_cons_succ, List.getElem_cons_zero])
            refine upTo_one (i := 8) (by kernel_rfl) rfl (fun K hK => ?_)
            go_simp
            refine hK.out _ _ (fun _ => ⟨q0.cell 1, HB1.out.cell 0, HB1.out.cell 1, HB1.out.cell 2, HB1.out.cell 3, HB1.out.cell 4⟩) ?_
            clear hK K
            (try simp only [Act.put, List.setIfInBounds_toArray, List.set_cons_zero, List.set_cons_succ, List.getElem_toArray, List.getElem_cons_succ, List.getElem_cons_zero])
            refine upTo_one (i := 9) (by kernel_rfl) rfl (fun K hK => ?_)
            go_simp
            refine hK.out _ _ (fun _ => ⟨q0.cell 1, HB1.out.cell 0, HB1.out.cell 1, HB1.out.cell 2, HB1.out.cell 3, HB1.out.cell 4⟩) ?_
            clear hK K
            (try simp only [Act.put, List.setIfInBounds_toArray, List.set_cons_zero, List.set_cons_succ, List.getElem_toArray, List.getElem_cons_succ, List.getElem_cons_zero])
            have q5 := q0.cell 1
            simp only [List.getElem?_cons_succ, List.getElem?_cons_zero] at q5
            refine upTo_one (i := 10) (by kernel_rfl) rfl (fun K hK => ?_)
            go_simp
            refine hK.out _ _ (fun h => absurd rfl h) ?_
            clear hK K
            (try simp only [Act.put, List.setIfInBounds_toArray, List.set_cons_zero, List.set_cons_succ, List.getElem_toArray, List.getElem_cons_succ, List.getElem_cons_zero])
            refine upTo_done (by kernel_rfl) ?_
            have HPz : Hid (OneL w0 (w1.setCell ⟨gb, 1, none⟩ (.slice (some ⟨gg, 0, none⟩) (G.aside.length + 1) cap)) b gb bs X' { G with aside := G.aside ++ [E1], da := some ⟨gg, 0, none⟩, dc := cap }) := (HPq.out.evoL HE3.out).less (fun x hx => by simp [hx])
            clear q0 q4 q5 cx hown1 hgrow hat hlt1 hb0 HRow HB1 HE3
            generalize w1.setCell ⟨gb, 1, none⟩ (.slice (some ⟨gg, 0, none⟩) (G.aside.length + 1) cap) = wz at *
            go_wp2
            go_ret
            refine ⟨rfl, X', { G with aside := G.aside ++ [E1], da := some ⟨gg, 0, none⟩, dc := cap }, HPz.out, R', ⟨⟨_, HL'.out⟩, ?_, ?_, HSt.out, HNx.out, HRc.out⟩⟩
            · show G.all = _; rw [HAl.out, HKp.out.all]
            · show G.aside ++ [_] = _; rw [HAs.out, HKp.out.aside, ← HTk.out]
          · have hst : R.stays i E = true := by unfold Ref.stays; rw [HRcc.out, hp2]; simp
            obtain ⟨hal, has⟩ : R'.all = R.all ++ [R.taken i E] ∧ R'.aside = R.aside := by
              rcases HLd.out with ⟨_, h1, h2⟩ | ⟨h, _⟩ | ⟨h, _⟩
              · exact ⟨h1, h2⟩
              · rw [hst] at h; cases h
              · rw [hst] at h; cases h
            have HAl : Hid (R'.all = R.all ++ [R.taken i E]) := hal
            have HAs : Hid (R'.aside = R.aside) := has
            have hn1 : (R'.all.length : Int) = (R.all.length : Int) + 1 := by rw [HAl.out]; simp
            have hn2 : (R'.aside.length : Int) = (R.aside.length : Int) := by rw [HAs.out]
            have hgl : G.all.length ≤ 200 := by rw [HKp.out.all]; exact HBn.out.1
            have hwp : IntKind.i64.wrap ((R.all.length : Int) + 1) = (R.all.length : Int) + 1 := by rw [IntKind.wrap_i64]; have := HBn.out.1; omega
            clear hal has hst
            rw [hp2] at k2
            by_cases hms : E.ts < R.merged
            · obtain ⟨E2, HE2⟩ := hex ({ E1 with ts := R.merged } : Ev)
              have HTk : Hid (E2 = R.taken i E) := by show _ = _; rw [HE2.out, HE1.out]; unfold Ref.taken Ref.lifts; rw [HRcc.out, hp2, hlate]; simp [hms]
              have hmd : decide (E.ts < R.merged) = true := by simpa using hms
              have fe2 := (HP8.out.bx (eb, 37, E1.vals) (by simp)).frozen 2
              clear hlate
              go_upto_region 24 with fail
              have HP9 : Hid (OneL w0 (w8.setCell ⟨eb, 2, none⟩ (.int .i64 R.merged)) b gb ((eb, 37, E2.vals) :: (kb, 60, [.bool T.inn, .bool T.idle, .int .i64 T.mark, .int .i64 T.n, .int .i64 T.last]) :: (cb, 26, c.vals) :: bs) X' G) := by
                have := HP8.out.set 2 (.int .i64 R.merged) HEw.out HEn.out
                show OneL _ _ _ _ _ _ _
                rw [HE2.out]
                exact this
              clear fe2 e0 e1 e2 e3 e4
              generalize w8.setCell ⟨eb, 2, none⟩ (.int .i64 R.merged) = w9 at *
              go_upto_region 24 with fail
              obtain ⟨wq, HWq⟩ := hex w9
              rw [← HWq.out]
              have HPq : Hid (OneL w0 wq b gb ((eb, 37, E2.vals) :: (kb, 60, [.bool T.inn, .bool T.idle, .int .i64 T.mark, .int .i64 T.n, .int .i64 T.last]) :: (cb, 26, c.vals) :: bs) X' G) := by show OneL _ _ _ _ _ _ _; rw [HWq.out]; exact HP9.out
              clear HWq
              have HBx : Hid (Blk wq eb 37 E2.vals) := HPq.out.bx (eb, 37, E2.vals) (by simp)
              have HNe : Hid (¬ some eb ∈ G.fp gb) := HPq.out.ng (eb, 37, E2.vals) (by simp)
              have HH : Hid (MemL wq gb G) := HPq.out.ml
              have cx : wq.cell? ⟨gb, 0, none⟩ = some (.slice G.aa G.all.length G.ac) := HH.out.blk.cell 0
              have HRow : Hid (Row wq 37 5 G.aa G.all.length G.ac (evs G.all)) := HH.out.ra
              refine upTo_region (fun u : World => u.cell? ⟨gb, 0, none⟩ = some (.slice G.aa G.all.length G.ac) ∧ u.cell? ⟨eb, 0, none⟩ = some (.int .i64 E2.src) ∧ u.cell? ⟨eb, 1, none⟩ = some (.int .i64 E2.seq) ∧ u.cell? ⟨eb, 2, none⟩ = some (.int .i64 E2.ts) ∧ u.cell? ⟨eb, 3, none⟩ = some (.int .i64 E2.kind) ∧ u.cell? ⟨eb, 4, none⟩ = some (.int .i64 E2.val)) 10 11 rfl (by kernel_rfl) ?_
              have hS0 : (fun u : World => u.cell? ⟨gb, 0, none⟩ = some (.slice G.aa G.all.length G.ac) ∧ u.cell? ⟨eb, 0, none⟩ = some (.int .i64 E2.src) ∧ u.cell? ⟨eb, 1, none⟩ = some (.int .i64 E2.seq) ∧ u.cell? ⟨eb, 2, none⟩ = some (.int .i64 E2.ts) ∧ u.cell? ⟨eb, 3, none⟩ = some (.int .i64 E2.kind) ∧ u.cell? ⟨eb, 4, none⟩ = some (.int .i64 E2.val)) wq.drew := ⟨cx, HBx.out.cell 0, HBx.out.cell 1, HBx.out.cell 2, HBx.out.cell 3, HBx.out.cell 4⟩
              refine upTo_take (i := 0) (v := ?v37_0) rfl (by kernel_rfl) (by kernel_rfl) (by kernel_rfl) (by kernel_rfl) (by rfl) (fun _ _ _ h => h) (by rfl) hS0 ?hy37_0 ?rest37_0
              case hy37_0 => (intro u hu; (try dsimp only at hu); go_simp; first | done | with_reducible rfl)
              (try simp only [Act.put, List.setIfInBounds_toArray, List.set_cons_zero, List.set_cons_succ, List.getElem_toArray, List.getElem_cons_succ, List.getElem_cons_zero])
              refine upTo_take (i := 1) (v := ?v37_1) rfl (by kernel_rfl) (by kernel_rfl) (by kernel_rfl) (by kernel_rfl) (by rfl) (fun _ _ _ h => h) (by rfl) hS0 ?hy37_1 ?rest37_1
              case hy37_1 => (intro u hu; (try dsimp only at hu); go_simp; first | done | with_reducible rfl)
              (try simp only [Act.put, List.setIfInBounds_toArray, List.set_cons_zero, List.set_cons_succ, List.getElem_toArray, List.getElem_cons_succ, List.getElem_cons_zero])
              refine upTo_take (i := 2) (v := ?v37_2) rfl (by kernel_rfl) (by kernel_rfl) (by kernel_rfl) (by kernel_rfl) (by rfl) (fun _ _ _ h => h) (by rfl) hS0 ?hy37_2 ?rest37_2
              case hy37_2 => (intro u hu; (try dsimp only at hu); go_simp; first | done | with_reducible rfl)
              (try simp only [Act.put, List.setIfInBounds_toArray, List.set_cons_zero, List.set_cons_succ, List.getElem_toArray, List.getElem_cons_succ, List.getElem_cons_zero])
              refine upTo_take (i := 3) (v := ?v37_3) rfl (by kernel_rfl) (by kernel_rfl) (by kernel_rfl) (by kernel_rfl) (by rfl) (fun _ _ _ h => h) (by rfl) hS0 ?hy37_3 ?rest37_3
              case hy37_3 => (intro u hu; (try dsimp only at hu); go_simp; first | done | with_reducible rfl)
              (try simp only [Act.put, List.setIfInBounds_toArray, List.set_cons_zero, List.set_cons_succ, List.getElem_toArray, List.getElem_cons_succ, List.getElem_cons_zero])
              refine upTo_take (i := 4) (v := ?v37_4) rfl (by kernel_rfl) (by kernel_rfl) (by kernel_rfl) (by kernel_rfl) (by rfl) (fun _ _ _ h => h) (by rfl) hS0 ?hy37_4 ?rest37_4
              case hy37_4 => (intro u hu; (try dsimp only at hu); go_simp; first | done | with_reducible rfl)
              (try simp only [Act.put, List.setIfInBounds_toArray, List.set_cons_zero, List.set_cons_succ, List.getElem_toArray, List.getElem_cons_succ, List.getElem_cons_zero])
              refine upTo_take (i := 5) (v := ?v37_5) rfl (by kernel_rfl) (by kernel_rfl) (by kernel_rfl) (by kernel_rfl) (by rfl) (fun _ _ _ h => h) (by rfl) hS0 ?hy37_5 ?rest37_5
              case hy37_5 => (intro u hu; (try dsimp only at hu); go_simp; first | done | with_reducible rfl)
              (try simp only [Act.put, List.setIfInBounds_toArray, List.set_cons_zero, List.set_cons_succ, List.getElem_toArray, List.getElem_cons_succ, List.getElem_cons_zero])
              refine upTo_one (i := 6) (by kernel_rfl) rfl (fun K hK => ?_)
              go_simp
              refine hK.out _ _ (fun _ => ⟨((HH.out.kept (below_kept ((Below.refl _ wq).alloc (Nat.le_refl _) _) (fun _ => False)) (fun _ _ e => e)).blk.cell 0), (HBx.out.alloc _).cell 0, (HBx.out.alloc _).cell 1, (HBx.out.alloc _).cell 2, (HBx.out.alloc _).cell 3, (HBx.out.alloc _).cell 4⟩) ?_
              clear hK K
              (try simp only [Act.put, List.setIfInBounds_toArray, List.set_cons_zero, List.set_cons_succ, List.getElem_toArray, List.getElem_cons_succ, List.getElem_cons_zero])
              refine upTo_one (i := 7) (by kernel_rfl) rfl (fun K hK => ?_)
              refine step_append_lies _ (by rfl) _ _ _ (by rfl) 0 37 j0 _ 5 40 Tryd.underlying32 hj0 hy0 hy1 hy2 rfl (by omega) (.slice G.aa G.all.length G.ac) G.all.length (evs G.all) (by rfl) (ownsRow_of_heap HRow.out (fun k hk => Below.heap_alloc _ _ _ hk))
                ⟨wq.heap.size, 0, none⟩ 1 1 E2.vals (by rfl) (by rfl) (World.news_of_block (cs := E2.vals.toArray) (t := 37) (fr := (0, 0)) (heap_alloc_new wq _)) (Ev.one E2)
                (by omega) (by unfold maxLen; omega) (by omega) (by omega) (wq.heap.size + 1) (by simp) ?_
              intro gg cap w1 hown1 hgrow hat hlt1
              have hb0 : Below wq.heap.size wq (wq.alloc (.cells E2.vals.toArray 37)).drew := ((Below.refl _ wq).alloc (Nat.le_refl _) _).drew
              obtain ⟨q0, hE⟩ := HH.out.appAllE (cap := cap) hb0 hown1 hgrow hat
              obtain ⟨_, _, qk, _, _, _⟩ := HH.out.app (j := 1) hb0 rfl (by omega) hgrow hat
              have q4 := q0.frozen 0
              have HB1 : Hid (Blk w1 eb 37 E2.vals) := HBx.out.kept qk HNe.out
              have HE3 : Hid (EvoL wq gb G (w1.setCell ⟨gb, 0, none⟩ (.slice (some ⟨gg, 0, none⟩) (G.all.length + 1) cap)) { G with all := G.all ++ [E2], aa := some ⟨gg, 0, none⟩, ac := cap }) := hE
              clear hE qk
              refine hK.out _ _ (fun _ => ⟨q0.cell 0, HB1.out.cell 0, HB1.out.cell 1, HB1.out.cell 2, HB1.out.cell 3, HB1.out.cell 4⟩) ?_
              clear hK K hS0
              (try simp only [Act.put, List.setIfInBounds_toArray, List.set_cons_zero, List.set_cons_succ, List.getElem_toArray, List.getElem_cons_succ, List.getElem_cons_zero])
              refine upTo_one (i := 8) (by kernel_rfl) rfl (fun K hK => ?_)
              go_simp
              refine hK.out _ _ (fun _ => ⟨q0.cell 0, HB1.out.cell 0, HB1.out.cell 1, HB1.out.cell 2, HB1.out.cell 3, HB1.out.cell 4⟩) ?_
              clear hK K
              (try simp only [Act.put, List.setIfInBounds_toArray, List.set_cons_zero, List.set_cons_succ, List.getElem_toArray, List.getElem_cons_succ, List.getElem_cons_zero])
              refine upTo_one (i := 9) (by kernel_rfl) rfl (fun K hK => ?_)
              go_simp
              refine hK.out _ _ (fun _ => ⟨q0.cell 0, HB1.out.cell 0, HB1.out.cell 1, HB1.out.cell 2, HB1.out.cell 3, HB1.out.cell 4⟩) ?_
              clear hK K
              (try simp only [Act.put, List.setIfInBounds_toArray, List.set_cons_zero, List.set_cons_succ, List.getElem_toArray, List.getElem_cons_succ, List.getElem_cons_zero])
              have q5 := q0.cell 0
              simp only [List.getElem?_cons_succ, List.getElem?_cons_zero] at q5
              refine upTo_one (i := 10) (by kernel_rfl) rfl (fun K hK => ?_)
              go_simp
              refine hK.out _ _ (fun h => absurd rfl h) ?_
              clear hK K
              (try simp only [Act.put, List.setIfInBounds_toArray, List.set_cons_zero, List.set_cons_succ, List.getElem_toArray, List.getElem_cons_succ, List.getElem_cons_zero])
              refine upTo_done (by kernel_rfl) ?_
              have HPz : Hid (OneL w0 (w1.setCell ⟨gb, 0, none⟩ (.slice (some ⟨gg, 0, none⟩) (G.all.length + 1) cap)) b gb bs X' { G with all := G.all ++ [E2], aa := some ⟨gg, 0, none⟩, ac := cap }) := (HPq.out.evoL HE3.out).less (fun x hx => by simp [hx])
              clear q0 q4 q5 cx hown1 hgrow hat hlt1 hb0 HRow HB1 HE3
              generalize w1.setCell ⟨gb, 0, none⟩ (.slice (some ⟨gg, 0, none⟩) (G.all.length + 1) cap) = wz at *
              go_wp2
              go_ret
              refine ⟨rfl, X', { G with all := G.all ++ [E2], aa := some ⟨gg, 0, none⟩, ac := cap }, HPz.out, R', ⟨⟨_, HL'.out⟩, ?_, ?_, HSt.out, HNx.out, HRc.out⟩⟩
              · show G.all ++ [_] = _; rw [HAl.out, HKp.out.all, ← HTk.out]
              · show G.aside = _; rw [HAs.out, HKp.out.aside]
            · have HTk : Hid (E1 = R.taken i E) := by show _ = _; rw [HE1.out]; unfold Ref.taken Ref.lifts; simp [hms]
              have hmd : decide (E.ts < R.merged) = false := by simpa using hms
              clear hlate
              go_upto_region 24 with fail
              obtain ⟨wq, HWq⟩ := hex w8
              rw [← HWq.out]
              have HPq : Hid (OneL w0 wq b gb ((eb, 37, E1.vals) :: (kb, 60, [.bool T.inn, .bool T.idle, .int .i64 T.mark, .int .i64 T.n, .int .i64 T.last]) :: (cb, 26, c.vals) :: bs) X' G) := by show OneL _ _ _ _ _ _ _; rw [HWq.out]; exact HP8.out
              clear HWq
              have HBx : Hid (Blk wq eb 37 E1.vals) := HPq.out.bx (eb, 37, E1.vals) (by simp)
              have HNe : Hid (¬ some eb ∈ G.fp gb) := HPq.out.ng (eb, 37, E1.vals) (by simp)
              have HH : Hid (MemL wq gb G) := HPq.out.ml
              have cx : wq.cell? ⟨gb, 0, none⟩ = some (.slice G.aa G.all.length G.ac) := HH.out.blk.cell 0
              have HRow : Hid (Row wq 37 5 G.aa G.all.length G.ac (evs G.all)) := HH.out.ra
              refine upTo_region (fun u : World => u.cell? ⟨gb, 0, none⟩ = some (.slice G.aa G.all.length G.ac) ∧ u.cell? ⟨eb, 0, none⟩ = some (.int .i64 E1.src) ∧ u.cell? ⟨eb, 1, none⟩ = some (.int .i64 E1.seq) ∧ u.cell? ⟨eb, 2, none⟩ = some (.int .i64 E1.ts) ∧ u.cell? ⟨eb, 3, none⟩ = some (.int .i64 E1.kind) ∧ u.cell? ⟨eb, 4, none⟩ = some (.int .i64 E1.val)) 10 11 rfl (by kernel_rfl) ?_
              have hS0 : (fun u : World => u.cell? ⟨gb, 0, none⟩ = some (.slice G.aa G.all.length G.ac) ∧ u.cell? ⟨eb, 0, none⟩ = some (.int .i64 E1.src) ∧ u.cell? ⟨eb, 1, none⟩ = some (.int .i64 E1.seq) ∧ u.cell? ⟨eb, 2, none⟩ = some (.int .i64 E1.ts) ∧ u.cell? ⟨eb, 3, none⟩ = some (.int .i64 E1.kind) ∧ u.cell? ⟨eb, 4, none⟩ = some (.int .i64 E1.val)) wq.drew := ⟨cx, HBx.out.cell 0, HBx.out.cell 1, HBx.out.cell 2, HBx.out.cell 3, HBx.out.cell 4⟩
              refine upTo_take (i := 0) (v := ?v38_0) rfl (by kernel_rfl) (by kernel_rfl) (by kernel_rfl) (by kernel_rfl) (by rfl) (fun _ _ _ h => h) (by rfl) hS0 ?hy38_0 ?rest38_0
              case hy38_0 => (intro u hu; (try dsimp only at hu); go_simp; first | done | with_reducible rfl)
              (try simp only [Act.put, List.setIfInBounds_toArray, List.set_cons_zero, List.set_cons_succ, List.getElem_toArray, List.getElem_cons_succ, List.getElem_cons_zero])
              refine upTo_take (i := 1) (v := ?v38_1) rfl (by kernel_rfl) (by kernel_rfl) (by kernel_rfl) (by kernel_rfl) (by rfl) (fun _ _ _ h => h) (by rfl) hS0 ?hy38_1 ?rest38_1
              case hy38_1 => (intro u hu; (try dsimp only at hu); go_simp; first | done | with_reducible rfl)
              (try simp only [Act.put, List.setIfInBounds_toArray, List.set_cons_zero, List.set_cons_succ, List.getElem_toArray, List.getElem_cons_succ, List.getElem_cons_zero])
              refine upTo_take (i := 2) (v := ?v38_2) rfl (by kernel_rfl) (by kernel_rfl) (by kernel_rfl) (by kernel_rfl) (by rfl) (fun _ _ _ h => h) (by rfl) hS0 ?hy38_2 ?rest38_2
              case hy38_2 => (intro u hu; (try dsimp only at hu); go_simp; first | done | with_reducible rfl)
              (try simp only [Act.put, List.setIfInBounds_toArray, List.set_cons_zero, List.set_cons_succ, List.getElem_toArray, List.getElem_cons_succ, List.getElem_cons_zero])
              refine upTo_take (i := 3) (v := ?v38_3) rfl (by kernel_rfl) (by kernel_rfl) (by kernel_rfl) (by kernel_rfl) (by rfl) (fun _ _ _ h => h) (by rfl) hS0 ?hy38_3 ?rest38_3
              case hy38_3 => (intro u hu; (try dsimp only at hu); go_simp; first | done | with_reducible rfl)
              (try simp only [Act.put, List.setIfInBounds_toArray, List.set_cons_zero, List.set_cons_succ, List.getElem_toArray, List.getElem_cons_succ, List.getElem_cons_zero])
              refine upTo_take (i := 4) (v := ?v38_4) rfl (by kernel_rfl) (by kernel_rfl) (by kernel_rfl) (by kernel_rfl) (by rfl) (fun _ _ _ h => h) (by rfl) hS0 ?hy38_4 ?rest38_4
              case hy38_4 => (intro u hu; (try dsimp only at hu); go_simp; first | done | with_reducible rfl)
              (try simp only [Act.put, List.setIfInBounds_toArray, List.set_cons_zero, List.set_cons_succ, List.getElem_toArray, List.getElem_cons_succ, List.getElem_cons_zero])
              refine upTo_take (i := 5) (v := ?v38_5) rfl (by kernel_rfl) (by kernel_rfl) (by kernel_rfl) (by kernel_rfl) (by rfl) (fun _ _ _ h => h) (by rfl) hS0 ?hy38_5 ?rest38_5
              case hy38_5 => (intro u hu; (try dsimp only at hu); go_simp; first | done | with_reducible rfl)
              (try simp only [Act.put, List.setIfInBounds_toArray, List.set_cons_zero, List.set_cons_succ, List.getElem_toArray, List.getElem_cons_succ, List.getElem_cons_zero])
              refine upTo_one (i := 6) (by kernel_rfl) rfl (fun K hK => ?_)
              go_simp
              refine hK.out _ _ (fun _ => ⟨((HH.out.kept (below_kept ((Below.refl _ wq).alloc (Nat.le_refl _) _) (fun _ => False)) (fun _ _ e => e)).blk.cell 0), (HBx.out.alloc _).cell 0, (HBx.out.alloc _).cell 1, (HBx.out.alloc _).cell 2, (HBx.out.alloc _).cell 3, (HBx.out.alloc _).cell 4⟩) ?_
              clear hK K
              (try simp only [Act.put, List.setIfInBounds_toArray, List.set_cons_zero, List.set_cons_succ, List.getElem_toArray, List.getElem_cons_succ, List.getElem_cons_zero])
              refine upTo_one (i := 7) (by kernel_rfl) rfl (fun K hK => ?_)
              refine step_append_lies _ (by rfl) _ _ _ (by rfl) 0 37 j0 _ 5 40 Tryd.underlying32 hj0 hy0 hy1 hy2 rfl (by omega) (.slice G.aa G.all.length G.ac) G.all.length (evs G.all) (by rfl) (ownsRow_of_heap HRow.out (fun k hk => Below.heap_alloc _ _ _ hk))
                ⟨wq.heap.size, 0, none⟩ 1 1 E1.vals (by rfl) (by rfl) (World.news_of_block (cs := E1.vals.toArray) (t := 37) (fr := (0, 0)) (heap_alloc_new wq _)) (Ev.one E1)
                (by omega) (by unfold maxLen; omega) (by omega) (by omega) (wq.heap.size + 1) (by simp) ?_
              intro gg cap w1 hown1 hgrow hat hlt1
              have hb0 : Below wq.heap.size wq (wq.alloc (.cells E1.vals.toArray 37)).drew := ((Below.refl _ wq).alloc (Nat.le_refl _) _).drew
              obtain ⟨q0, hE⟩ := HH.out.appAllE (cap := cap) hb0 hown1 hgrow hat
              obtain ⟨_, _, qk, _, _, _⟩ := HH.out.app (j := 1) hb0 rfl (by omega) hgrow hat
              have q4 := q0.frozen 0
              have HB1 : Hid (Blk w1 eb 37 E1.vals) := HBx.out.kept qk HNe.out
              have HE3 : Hid (EvoL wq gb G (w1.setCell ⟨gb, 0, none⟩ (.slice (some ⟨gg, 0, none⟩) (G.all.length + 1) cap)) { G with all := G.all ++ [E1], aa := some ⟨gg, 0, none⟩, ac := cap }) := hE
              clear hE qk
              refine hK.out _ _ (fun _ => ⟨q0.cell 0, HB1.out.cell 0, HB1.out.cell 1, HB1.out.cell 2, HB1.out.cell 3, HB1.out.cell 4⟩) ?_
              clear hK K hS0
              (try simp only [Act.put, List.setIfInBounds_toArray, List.set_cons_zero, List.set_cons_succ, List.getElem_toArray, List.getElem_cons_succ, List.getElem_cons_zero])
              refine upTo_one (i := 8) (by kernel_rfl) rfl (fun K hK => ?_)
              go_simp
              refine hK.out _ _ (fun _ => ⟨q0.cell 0, HB1.out.cell 0, HB1.out.cell 1, HB1.out.cell 2, HB1.out.cell 3, HB1.out.cell 4⟩) ?_
              clear hK K
              (try simp only [Act.put, List.setIfInBounds_toArray, List.set_cons_zero, List.set_cons_succ, List.getElem_toArray, List.getElem_cons_succ, List.getElem_cons_zero])
              refine upTo_one (i := 9) (by kernel_rfl) rfl (fun K hK => ?_)
              go_simp
              refine hK.out _ _ (fun _ => ⟨q0.cell 0, HB1.out.cell 0, HB1.out.cell 1, HB1.out.cell 2, HB1.out.cell 3, HB1.out.cell 4⟩) ?_
              clear hK K
              (try simp only [Act.put, List.setIfInBounds_toArray, List.set_cons_zero, List.set_cons_succ, List.getElem_toArray, List.getElem_cons_succ, List.getElem_cons_zero])
              have q5 := q0.cell 0
              simp only [List.getElem?_cons_succ, List.getElem?_cons_zero] at q5
              refine upTo_one (i := 10) (by kernel_rfl) rfl (fun K hK => ?_)
              go_simp
              refine hK.out _ _ (fun h => absurd rfl h) ?_
              clear hK K
              (try simp only [Act.put, List.setIfInBounds_toArray, List.set_cons_zero, List.set_cons_succ, List.getElem_toArray, List.getElem_cons_succ, List.getElem_cons_zero])
              refine upTo_done (by kernel_rfl) ?_
              have HPz : Hid (OneL w0 (w1.setCell ⟨gb, 0, none⟩ (.slice (some ⟨gg, 0, none⟩) (G.all.length + 1) cap)) b gb bs X' { G with all := G.all ++ [E1], aa := some ⟨gg, 0, none⟩, ac := cap }) := (HPq.out.evoL HE3.out).less (fun x hx => by simp [hx])
              clear q0 q4 q5 cx hown1 hgrow hat hlt1 hb0 HRow HB1 HE3
              generalize w1.setCell ⟨gb, 0, none⟩ (.slice (some ⟨gg, 0, none⟩) (G.all.length + 1) cap) = wz at *
              go_wp2
              go_ret
              refine ⟨rfl, X', { G with all := G.all ++ [E1], aa := some ⟨gg, 0, none⟩, ac := cap }, HPz.out, R', ⟨⟨_, HL'.out⟩, ?_, ?_, HSt.out, HNx.out, HRc.out⟩⟩
              · show G.all ++ [_] = _; rw [HAl.out, HKp.out.all, ← HTk.out]
              · show G.aside = _; rw [HAs.out, HKp.out.aside]
        · have hlate : R.late i E = false := by unfold Ref.late; rw [hbd]; simpa using hlt
          have hld : decide (E.ts < T.mark) = false := by simpa using hlt
          have hst : R.stays i E = true := by unfold Ref.stays; rw [hlate]; rfl
          obtain ⟨hal, has⟩ : R'.all = R.all ++ [R.taken i E] ∧ R'.aside = R.aside := by
            rcases HLd.out with ⟨_, h1, h2⟩ | ⟨h, _⟩ | ⟨h, _⟩
            · exact ⟨h1, h2⟩
            · rw [hst] at h; cases h
            · rw [hst] at h; cases h
          have HTk : Hid (E1 = R.taken i E) := by show _ = _; rw [HE1.out]; unfold Ref.taken Ref.lifts; rw [hlate]; simp
          have HAl : Hid (R'.all = R.all ++ [R.taken i E]) := hal
          have HAs : Hid (R'.aside = R.aside) := has
          have hn1 : (R'.all.length : Int) = (R.all.length : Int) + 1 := by rw [HAl.out]; simp
          have hn2 : (R'.aside.length : Int) = (R.aside.length : Int) := by rw [HAs.out]
          have hgl : G.all.length ≤ 200 := by rw [HKp.out.all]; exact HBn.out.1
          have hwp : IntKind.i64.wrap ((R.all.length : Int) + 1) = (R.all.length : Int) + 1 := by rw [IntKind.wrap_i64]; have := HBn.out.1; omega
          clear hal has hlate hst
          go_upto_region 24 with fail
          obtain ⟨wq, HWq⟩ := hex w8
          rw [← HWq.out]
          have HPq : Hid (OneL w0 wq b gb ((eb, 37, E1.vals) :: (kb, 60, [.bool T.inn, .bool T.idle, .int .i64 T.mark, .int .i64 T.n, .int .i64 T.last]) :: (cb, 26, c.vals) :: bs) X' G) := by show OneL _ _ _ _ _ _ _; rw [HWq.out]; exact HP8.out
          clear HWq
          have HBx : Hid (Blk wq eb 37 E1.vals) := HPq.out.bx (eb, 37, E1.vals) (by simp)
          have HNe : Hid (¬ some eb ∈ G.fp gb) := HPq.out.ng (eb, 37, E1.vals) (by simp)
          have HH : Hid (MemL wq gb G) := HPq.out.ml
          have cx : wq.cell? ⟨gb, 0, none⟩ = some (.slice G.aa G.all.length G.ac) := HH.out.blk.cell 0
          have HRow : Hid (Row wq 37 5 G.aa G.all.length G.ac (evs G.all)) := HH.out.ra
          refine upTo_region (fun u : World => u.cell? ⟨gb, 0, none⟩ = some (.slice G.aa G.all.length G.ac) ∧ u.cell? ⟨eb, 0, none⟩ = some (.int .i64 E1.src) ∧ u.cell? ⟨eb, 1, none⟩ = some (.int .i64 E1.seq) ∧ u.cell? ⟨eb, 2, none⟩ = some (.int .i64 E1.ts) ∧ u.cell? ⟨eb, 3, none⟩ = some (.int .i64 E1.kind) ∧ u.cell? ⟨eb, 4, none⟩ = some (.int .i64 E1.val)) 10 11 rfl (by kernel_rfl) ?_
          have hS0 : (fun u : World => u.cell? ⟨gb, 0, none⟩ = some (.slice G.aa G.all.length G.ac) ∧ u.cell? ⟨eb, 0, none⟩ = some (.int .i64 E1.src) ∧ u.cell? ⟨eb, 1, none⟩ = some (.int .i64 E1.seq) ∧ u.cell? ⟨eb, 2, none⟩ = some (.int .i64 E1.ts) ∧ u.cell? ⟨eb, 3, none⟩ = some (.int .i64 E1.kind) ∧ u.cell? ⟨eb, 4, none⟩ = some (.int .i64 E1.val)) wq.drew := ⟨cx, HBx.out.cell 0, HBx.out.cell 1, HBx.out.cell 2, HBx.out.cell 3, HBx.out.cell 4⟩
          refine upTo_take (i := 0) (v := ?v39_0) rfl (by kernel_rfl) (by kernel_rfl) (by kernel_rfl) (by kernel_rfl) (by rfl) (fun _ _ _ h => h) (by rfl) hS0 ?hy39_0 ?rest39_0
          case hy39_0 => (intro u hu; (try dsimp only at hu); go_simp; first | done | with_reducible rfl)
          (try simp only [Act.put, List.setIfInBounds_toArray, List.set_cons_zero, List.set_cons_succ, List.getElem_toArray, List.getElem_cons_succ, List.getElem_cons_zero])
          refine upTo_take (i := 1) (v := ?v39_1) rfl (by kernel_rfl) (by kernel_rfl) (by kernel_rfl) (by kernel_rfl) (by rfl) (fun _ _ _ h => h) (by rfl) hS0 ?hy39_1 ?rest39_1
          case hy39_1 => (intro u hu; (try dsimp only at hu); go_simp; first | done | with_reducible rfl)
          (try simp only [Act.put, List.setIfInBounds_toArray, List.set_cons_zero, List.set_cons_succ, List.getElem_toArray, List.getElem_cons_succ, List.getElem_cons_zero])
          refine upTo_take (i := 2) (v := ?v39_2) rfl (by kernel_rfl) (by kernel_rfl) (by kernel_rfl) (by kernel_rfl) (by rfl) (fun _ _ _ h => h) (by rfl) hS0 ?hy39_2 ?rest39_2
          case hy39_2 => (intro u hu; (try dsimp only at hu); go_simp; first | done | with_reducible rfl)
          (try simp only [Act.put, List.setIfInBounds_toArray, List.set_cons_zero, List.set_cons_succ, List.getElem_toArray, List.getElem_cons_succ, List.getElem_cons_zero])
          refine upTo_take (i := 3) (v := ?v39_3) rfl (by kernel_rfl) (by kernel_rfl) (by kernel_rfl) (by kernel_rfl) (by rfl) (fun _ _ _ h => h) (by rfl) hS0 ?hy39_3 ?rest39_3
          case hy39_3 => (intro u hu; (try dsimp only at hu); go_simp; first | done | with_reducible rfl)
          (try simp only [Act.put, List.setIfInBounds_toArray, List.set_cons_zero, List.set_cons_succ, List.getElem_toArray, List.getElem_cons_succ, List.getElem_cons_zero])
          refine upTo_take (i := 4) (v := ?v39_4) rfl (by kernel_rfl) (by kernel_rfl) (by kernel_rfl) (by kernel_rfl) (by rfl) (fun _ _ _ h => h) (by rfl) hS0 ?hy39_4 ?rest39_4
          case hy39_4 => (intro u hu; (try dsimp only at hu); go_simp; first | done | with_reducible rfl)
          (try simp only [Act.put, List.setIfInBounds_toArray, List.set_cons_zero, List.set_cons_succ, List.getElem_toArray, List.getElem_cons_succ, List.getElem_cons_zero])
          refine upTo_take (i := 5) (v := ?v39_5) rfl (by kernel_rfl) (by kernel_rfl) (by kernel_rfl) (by kernel_rfl) (by rfl) (fun _ _ _ h => h) (by rfl) hS0 ?hy39_5 ?rest39_5
          case hy39_5 => (intro u hu; (try dsimp only at hu); go_simp; first | done | with_reducible rfl)
          (try simp only [Act.put, List.setIfInBounds_toArray, List.set_cons_zero, List.set_cons_succ, List.getElem_toArray, List.getElem_cons_succ, List.getElem_cons_zero])
          refine upTo_one (i := 6) (by kernel_rfl) rfl (fun K hK => ?_)
          go_simp
          refine hK.out _ _ (fun _ => ⟨((HH.out.kept (below_kept ((Below.refl _ wq).alloc (Nat.le_refl _) _) (fun _ => False)) (fun _ _ e => e)).blk.cell 0), (HBx.out.alloc _).cell 0, (HBx.out.alloc _).cell 1, (HBx.out.alloc _).cell 2, (HBx.out.alloc _).cell 3, (HBx.out.alloc _).cell 4⟩) ?_
          clear hK K
          (try simp only [Act.put, List.setIfInBounds_toArray, List.set_cons_zero, List.set_cons_succ, List.getElem_toArray, List.getElem_cons_succ, List.getElem_cons_zero])
          refine upTo_one (i := 7) (by kernel_rfl) rfl (fun K hK => ?_)
          refine step_append_lies _ (by rfl) _ _ _ (by rfl) 0 37 j0 _ 5 40 Tryd.underlying32 hj0 hy0 hy1 hy2 rfl (by omega) (.slice G.aa G.all.length G.ac) G.all.length (evs G.all) (by rfl) (ownsRow_of_heap HRow.out (fun k hk => Below.heap_alloc _ _ _ hk))
            ⟨wq.heap.size, 0, none⟩ 1 1 E1.vals (by rfl) (by rfl) (World.news_of_block (cs := E1.vals.toArray) (t := 37) (fr := (0, 0)) (heap_alloc_new wq _)) (Ev.one E1)
            (by omega) (by unfold maxLen; omega) (by omega) (by omega) (wq.heap.size + 1) (by simp) ?_
          intro gg cap w1 hown1 hgrow hat hlt1
          have hb0 : Below wq.heap.size wq (wq.alloc (.cells E1.vals.toArray 37)).drew := ((Below.refl _ wq).alloc (Nat.le_refl _) _).drew
          obtain ⟨q0, hE⟩ := HH.out.appAllE (cap := cap) hb0 hown1 hgrow hat
          obtain ⟨_, _, qk, _, _, _⟩ := HH.out.app (j := 1) hb0 rfl (by omega) hgrow hat
          have q4 := q0.frozen 0
          have HB1 : Hid (Blk w1 eb 37 E1.vals) := HBx.out.kept qk HNe.out
          have HE3 : Hid (EvoL wq gb G (w1.setCell ⟨gb, 0, none⟩ (.slice (some ⟨gg, 0, none⟩) (G.all.length + 1) cap)) { G with all := G.all ++ [E1], aa := some ⟨gg, 0, none⟩, ac := cap }) := hE
          clear hE qk
          refine hK.out _ _ (fun _ => ⟨q0.cell 0, HB1.out.cell 0, HB1.out.cell 1, HB1.out.cell 2, HB1.out.cell 3, HB1.out.cell 4⟩) ?_
          clear hK K hS0
          (try simp only [Act.put, List.setIfInBounds_toArray, List.set_cons_zero, List.set_cons_succ, List.getElem_toArray, List.getElem_cons_succ, List.getElem_cons_zero])
          refine upTo_one (i := 8) (by kernel_rfl) rfl (fun K hK => ?_)
          go_simp
          refine hK.out _ _ (fun _ => ⟨q0.cell 0, HB1.out.cell 0, HB1.out.cell 1, HB1.out.cell 2, HB1.out.cell 3, HB1.out.cell 4⟩) ?_
          clear hK K
          (try simp only [Act.put, List.setIfInBounds_toArray, List.set_cons_zero, List.set_cons_succ, List.getElem_toArray, List.getElem_cons_succ, List.getElem_cons_zero])
          refine upTo_one (i := 9) (by kernel_rfl) rfl (fun K hK => ?_)
          go_simp
          refine hK.out _ _ (fun _ => ⟨q0.cell 0, HB1.out.cell 0, HB1.out.cell 1, HB1.out.cell 2, HB1.out.cell 3, HB1.out.cell 4⟩) ?_
          clear hK K
          (try simp only [Act.put, List.setIfInBounds_toArray, List.set_cons_zero, List.set_cons_succ, List.getElem_toArray, List.getElem_cons_succ, List.getElem_cons_zero])
          have q5 := q0.cell 0
          simp only [List.getElem?_cons_succ, List.getElem?_cons_zero] at q5
          refine upTo_one (i := 10) (by kernel_rfl) rfl (fun K hK => ?_)
          go_simp
          refine hK.out _ _ (fun h => absurd rfl h) ?_
          clear hK K
          (try simp only [Act.put, List.setIfInBounds_toArray, List.set_cons_zero, List.set_cons_succ, List.getElem_toArray, List.getElem_cons_succ, List.getElem_cons_zero])
          refine upTo_done (by kernel_rfl) ?_
          have HPz : Hid (OneL w0 (w1.setCell ⟨gb, 0, none⟩ (.slice (some ⟨gg, 0, none⟩) (G.all.length + 1) cap)) b gb bs X' { G with all := G.all ++ [E1], aa := some ⟨gg, 0, none⟩, ac := cap }) := (HPq.out.evoL HE3.out).less (fun x hx => by simp [hx])
          clear q0 q4 q5 cx hown1 hgrow hat hlt1 hb0 HRow HB1 HE3
          generalize w1.setCell ⟨gb, 0, none⟩ (.slice (some ⟨gg, 0, none⟩) (G.all.length + 1) cap) = wz at *
          go_wp2
          go_ret
          refine ⟨rfl, X', { G with all := G.all ++ [E1], aa := some ⟨gg, 0, none⟩, ac := cap }, HPz.out, R', ⟨⟨_, HL'.out⟩, ?_, ?_, HSt.out, HNx.out, HRc.out⟩⟩
          · show G.all ++ [_] = _; rw [HAl.out, HKp.out.all, ← HTk.out]
          · show G.aside = _; rw [HAs.out, HKp.out.aside]
end Go.Proofs.YtghcololkgeoeaaDoor
