import Derived.Test.YthiabdpgieppoaaGreatXE
namespace Go.Proofs.YthiabdpgieppoaaGreat
open Go.RowKit
set_option linter.unusedVariables false
set_option linter.unusedSimpArgs false
attribute [local go_sem ↓] Go.wp_at_zero Go.wp_at_succ

set_option maxHeartbeats 400000 in
theorem isTime_any (t : Int) (w : World) : Calls Tryz.prog 54 #[.int .i64 t] w fun e w' => e = .returned (.bool (!beyondB t)) ∧ w = w' := by
  have HD : Hid (decide (-1099511627776 ≤ t ∧ t ≤ 1099511627776) = !beyondB t) := by
    show _ = _
    unfold beyondB
    by_cases h : t < -1099511627776 ∨ 1099511627776 < t
    · simp [h]; omega
    · simp [h]; omega
  go_enter Tryz.func54, Tryz.ntmps54
  go_wp2_with (go_at_call 56; refine (within_any _ _ _ _).mono ?_; rintro e w' ⟨rfl, rfl⟩; rw [HD.out])
  go_ret
  exact ⟨rfl, rfl⟩
set_option maxRecDepth 100000 in
set_option maxHeartbeats 2000000 in
theorem isEvent_any (E : Ev) (w : World) : Calls Tryz.prog 75 #[E.agg] w fun e w' => e = .returned (.bool (!badB E)) ∧ Below w.heap.size w w' := by
  have hB : Below w.heap.size w (w.alloc (.cells #[.int .i64 E.src, .int .i64 E.seq, .int .i64 E.ts, .int .i64 E.kind, .int .i64 E.val] 32)) := (Below.refl _ _).alloc (Nat.le_refl _) _
  have HF : Hid (badB E = false ↔ (0 ≤ E.seq ∧ E.seq ≤ 1099511627776) ∧ (65 ≤ E.kind ∧ E.kind ≤ 90) ∧ (-1099511627776 ≤ E.val ∧ E.val ≤ 1099511627776)) := by
    show _ ↔ _
    unfold badB beyondB
    simp
    omega
  unfold Ev.agg
  cases h1 : decide (0 ≤ E.seq ∧ E.seq ≤ 1099511627776) with
  | false =>
    have hf : badB E = true := by
      cases hb : badB E with
      | true => rfl
      | false => have := HF.out.1 hb; simp at h1; omega
    rw [hf]
    have H1 : Hid (decide (0 ≤ E.seq ∧ E.seq ≤ 1099511627776) = false) := h1
    clear h1 hf
    go_enter Tryz.func75, Tryz.ntmps75
    go_wp2_with (go_at_call 56; refine (within_any _ _ _ _).mono ?_; rintro e w' ⟨rfl, rfl⟩; rw [H1.out])
    go_ret
    exact ⟨rfl, hB⟩
  | true =>
    have H1 : Hid (decide (0 ≤ E.seq ∧ E.seq ≤ 1099511627776) = true) := h1
    clear h1
    cases h2 : decide (65 ≤ E.kind ∧ E.kind ≤ 90) with
    | false =>
      have hf : badB E = true := by
        cases hb : badB E with
        | true => rfl
        | false => have := HF.out.1 hb; simp at h2; omega
      rw [hf]
      have H2 : Hid (decide (65 ≤ E.kind ∧ E.kind ≤ 90) = false) := h2
      clear h2 hf
      go_enter Tryz.func75, Tryz.ntmps75
      go_wp2_with (go_at_call 56; refine (within_any _ _ _ _).mono ?_; rintro e w' ⟨rfl, rfl⟩; first | rw [H1.out] | rw [H2.out])
      go_ret
      exact ⟨rfl, hB⟩
    | true =>
      have H2 : Hid (decide (65 ≤ E.kind ∧ E.kind ≤ 90) = true) := h2
      clear h2
      obtain ⟨t5, h5⟩ : ∃ t5, decide (-1099511627776 ≤ E.val ∧ E.val ≤ 1099511627776) = t5 := ⟨_, rfl⟩
      have H5 : Hid (decide (-1099511627776 ≤ E.val ∧ E.val ≤ 1099511627776) = t5) := h5
      clear h5
      have hf : (!badB E) = t5 := by
        have a1 := of_decide_eq_true H1.out
        have a2 := of_decide_eq_true H2.out
        have hx : badB E = false ↔ t5 = true := by
          rw [HF.out, ← H5.out, decide_eq_true_iff]
          exact ⟨fun h => h.2.2, fun h => ⟨a1, a2, h⟩⟩
        cases hb : badB E <;> cases t5 <;> simp_all
      rw [hf]
      clear hf
      go_enter Tryz.func75, Tryz.ntmps75
      go_wp2_with (go_at_call 56; refine (within_any _ _ _ _).mono ?_; rintro e w' ⟨rfl, rfl⟩; first | rw [H1.out] | rw [H2.out] | rw [H5.out])
      go_ret
      exact ⟨rfl, hB⟩
/-- what is wrong with an event, by the program -/
def pWrong (p : PSrc) (e : Ev) : Int := if p.inn = false then 4 else if badB e = true then 5 else if beyondB e.ts = true then 6 else if e.seq ≤ p.last then 7 else 0
set_option maxRecDepth 100000 in
set_option maxHeartbeats 1000000 in
theorem xcheckPush_none (b : Nat) (X : Eng) (s : Int) (E : Ev) (w : World) (h : MemX w b X) (hs : s < 0 ∨ (X.srcs.length : Int) ≤ s) :
    Calls Tryz.prog 42 #[.pointer (some ⟨b, 0, none⟩), .int .i64 s, E.agg] w fun e w' => e = .returned (.int .i64 3) ∧ Below w.heap.size w w' := by
  have hB : Below w.heap.size w (w.alloc (.cells #[.int .i64 E.src, .int .i64 E.seq, .int .i64 E.ts, .int .i64 E.kind, .int .i64 E.val] 32)) := (Below.refl _ _).alloc (Nat.le_refl _) _
  unfold Ev.agg
  go_enter Tryz.func42, Tryz.ntmps42
  go_wp2_with (go_at_call 41; refine (xcheckIn_none b X s _ (h.alloc _) hs).mono ?_; rintro e w' ⟨rfl, rfl⟩)
  go_ret
  exact ⟨rfl, hB⟩
set_option maxRecDepth 100000 in
set_option maxHeartbeats 2000000 in
theorem xcheckPush_some (b : Nat) (X : Eng) (i : Nat) (E : Ev) (w : World) (h : MemX w b X) (hi : i < X.srcs.length) :
    Calls Tryz.prog 42 #[.pointer (some ⟨b, 0, none⟩), .int .i64 i, E.agg] w fun e w' => e = .returned (.int .i64 (pWrong X.srcs[i] E)) ∧ Below w.heap.size w w' := by
  obtain ⟨w1, HW1⟩ := hex (w.alloc (.cells E.vals.toArray 32))
  have hw1 : w.alloc (.cells #[.int .i64 E.src, .int .i64 E.seq, .int .i64 E.ts, .int .i64 E.kind, .int .i64 E.val] 32) = w1 := HW1.out.symm
  have HB1 : Hid (Below w.heap.size w w1) := by show Below _ _ _; rw [HW1.out]; exact (Below.refl _ _).alloc (Nat.le_refl _) _
  have HM1 : Hid (MemX w1 b X) := h.below HB1.out
  have HE1 : Hid (Blk w1 w.heap.size 32 E.vals) := by show Blk _ _ _ _; rw [HW1.out]; exact blk_alloc _ _ _
  have hev : ∀ u, Calls Tryz.prog 75 #[.agg #[.int .i64 E.src, .int .i64 E.seq, .int .i64 E.ts, .int .i64 E.kind, .int .i64 E.val]] u fun e w' => e = .returned (.bool (!badB E)) ∧ Below u.heap.size u w' := fun u => isEvent_any E u
  have hi' : (i : Int) < (X.srcs.length : Int) := by omega
  have hi0 : (0 : Int) ≤ (i : Int) := by omega
  have m0 := HE1.out.cell 0
  have m1 := HE1.out.cell 1
  have m2 := HE1.out.cell 2
  have m3 := HE1.out.cell 3
  have m4 := HE1.out.cell 4
  simp only [Ev.vals, List.getElem?_cons_zero, List.getElem?_cons_succ] at m0 m1 m2 m3 m4
  clear h
  unfold pWrong Ev.agg
  cases hin : X.srcs[i].inn with
  | false =>
    have HI : Hid ((if X.srcs[i].inn then (0 : Int) else 4) = 4) := by show _ = _; rw [hin]; rfl
    simp only [if_true]
    go_enter Tryz.func42, Tryz.ntmps42
    go_wp2_with (go_at_call 41; refine (xcheckIn_some b X i _ HM1.out hi).mono ?_; rintro e w' ⟨rfl, rfl⟩; rw [HI.out])
    go_ret
    exact ⟨rfl, HB1.out⟩
  | true =>
    have HI : Hid ((if X.srcs[i].inn then (0 : Int) else 4) = 0) := by show _ = _; rw [hin]; rfl
    simp only [Bool.true_eq_false, if_false]
    cases hbd : badB E with
    | true =>
      have HV : Hid (badB E = true) := hbd
      simp only [if_true]
      clear hbd
      go_enter Tryz.func42, Tryz.ntmps42
      go_wp2_with (first
        | (go_at_call 41; refine (xcheckIn_some b X i _ HM1.out hi).mono ?_; rintro e w' ⟨rfl, rfl⟩; rw [HI.out])
        | (go_at_call 75; refine (hev _).mono ?_; rintro e w2 ⟨rfl, hb2⟩; rw [HV.out]))
      go_ret
      exact ⟨rfl, HB1.out.trans (hb2.mono HB1.out.size)⟩
    | false =>
      have HV : Hid (badB E = false) := hbd
      simp only [Bool.false_eq_true, if_false]
      clear hbd
      cases hts : beyondB E.ts with
      | true =>
        have HT : Hid (beyondB E.ts = true) := hts
        simp only [if_true]
        clear hts
        go_enter Tryz.func42, Tryz.ntmps42
        go_upto_region 6 with (first
          | (go_at_call 41; refine (xcheckIn_some b X i _ HM1.out hi).mono ?_; rintro e w' ⟨rfl, rfl⟩; rw [HI.out])
          | (go_at_call 75; refine (hev _).mono ?_; rintro e w2 ⟨rfl, hb2⟩; rw [HV.out]))
        have HB2 : Hid (Below w1.heap.size w1 w2) := hb2
        clear hb2 m0 m1 m2 m3 m4
        have m2 := (HE1.out.below HB2.out HE1.out.lt).cell 2
        simp only [Ev.vals, List.getElem?_cons_zero, List.getElem?_cons_succ] at m2
        go_wp2_with (go_at_call 54; refine (isTime_any _ _).mono ?_; rintro e w3 ⟨rfl, rfl⟩; rw [HT.out])
        go_ret
        exact ⟨rfl, HB1.out.trans (HB2.out.mono HB1.out.size)⟩
      | false =>
        have HT : Hid (beyondB E.ts = false) := hts
        simp only [Bool.false_eq_true, if_false]
        clear hts
        obtain ⟨L, HLs⟩ := hex X.srcs[i].last
        rw [← HLs.out]
        by_cases hq : E.seq ≤ L
        · simp only [hq, if_true]
          go_enter Tryz.func42, Tryz.ntmps42
          go_upto_region 6 with (first
            | (go_at_call 41; refine (xcheckIn_some b X i _ HM1.out hi).mono ?_; rintro e w' ⟨rfl, rfl⟩; rw [HI.out])
            | (go_at_call 75; refine (hev _).mono ?_; rintro e w2 ⟨rfl, hb2⟩; rw [HV.out]))
          have HB2 : Hid (Below w1.heap.size w1 w2) := hb2
          clear hb2 m0 m1 m2 m3 m4
          have m1 := (HE1.out.below HB2.out HE1.out.lt).cell 1
          have m2 := (HE1.out.below HB2.out HE1.out.lt).cell 2
          simp only [Ev.vals, List.getElem?_cons_zero, List.getElem?_cons_succ] at m1 m2
          obtain ⟨_, _, _, _, c6, _⟩ := (HM1.out.below HB2.out).cells
          have s4 := (HM1.out.below HB2.out).srcCell i 4 hi (by omega)
          simp only [PSrc.vals, List.getElem?_cons_zero, List.getElem?_cons_succ, Nat.add_zero] at s4
          rw [← HLs.out] at s4
          go_wp2_with (go_at_call 54; refine (isTime_any _ _).mono ?_; rintro e w3 ⟨rfl, rfl⟩; rw [HT.out])
          go_quiet (fail)
          go_wp2
          go_ret
          exact ⟨rfl, bdrewN (HB1.out.trans (HB2.out.mono HB1.out.size)) _⟩
        · simp only [hq, if_false]
          have hd : decide (E.seq ≤ L) = false := by simpa using hq
          go_enter Tryz.func42, Tryz.ntmps42
          go_upto_region 6 with (first
            | (go_at_call 41; refine (xcheckIn_some b X i _ HM1.out hi).mono ?_; rintro e w' ⟨rfl, rfl⟩; rw [HI.out])
            | (go_at_call 75; refine (hev _).mono ?_; rintro e w2 ⟨rfl, hb2⟩; rw [HV.out]))
          have HB2 : Hid (Below w1.heap.size w1 w2) := hb2
          clear hb2 m0 m1 m2 m3 m4
          have m1 := (HE1.out.below HB2.out HE1.out.lt).cell 1
          have m2 := (HE1.out.below HB2.out HE1.out.lt).cell 2
          simp only [Ev.vals, List.getElem?_cons_zero, List.getElem?_cons_succ] at m1 m2
          obtain ⟨_, _, _, _, c6, _⟩ := (HM1.out.below HB2.out).cells
          have s4 := (HM1.out.below HB2.out).srcCell i 4 hi (by omega)
          simp only [PSrc.vals, List.getElem?_cons_zero, List.getElem?_cons_succ, Nat.add_zero] at s4
          rw [← HLs.out] at s4
          go_wp2_with (go_at_call 54; refine (isTime_any _ _).mono ?_; rintro e w3 ⟨rfl, rfl⟩; rw [HT.out])
          go_quiet (fail)
          go_wp2
          go_ret
          exact ⟨rfl, bdrewN (HB1.out.trans (HB2.out.mono HB1.out.size)) _⟩

set_option maxRecDepth 100000 in
set_option maxHeartbeats 1000000 in
theorem xisLate_any (b : Nat) (X : Eng) (i : Nat) (ts : Int) (w : World) (h : MemX w b X) (hi : i < X.srcs.length) :
    Calls Tryz.prog 43 #[.pointer (some ⟨b, 0, none⟩), .int .i64 i, .int .i64 ts] w fun e w' => e = .returned (.bool (X.isLate X.srcs[i] ts)) ∧ w = w' := by
  obtain ⟨_, _, _, _, c6, c7, _⟩ := h.cells
  have s1 := h.srcCell i 1 hi (by omega)
  have s2 := h.srcCell i 2 hi (by omega)
  simp only [PSrc.vals, List.getElem?_cons_zero, List.getElem?_cons_succ, Nat.add_zero] at s1 s2
  have hi' : (i : Int) < (X.srcs.length : Int) := by omega
  have hi0 : (0 : Int) ≤ (i : Int) := by omega
  obtain ⟨P, HP⟩ := hex X.srcs[i]
  rw [← HP.out] at s1 s2 ⊢
  have HL : Hid (X.isLate P ts = ((P.idle && decide (ts < X.merged)) || decide (ts < P.mark))) := rfl
  generalize hid : P.idle = pid at *
  cases pid with
  | false =>
    have HR : Hid (X.isLate P ts = decide (ts < P.mark)) := by show _ = _; rw [HL.out]; simp
    go_enter Tryz.func43, Tryz.ntmps43
    go_wp2
    go_ret
    exact ⟨ret_bool HR.out.symm, rfl⟩
  | true =>
    by_cases hm : ts < X.merged
    · have HR : Hid (X.isLate P ts = true) := by show _ = _; rw [HL.out]; simp [hm]
      go_enter Tryz.func43, Tryz.ntmps43
      go_wp2
      go_ret
      exact ⟨ret_bool HR.out.symm, rfl⟩
    · have HR : Hid (X.isLate P ts = decide (ts < P.mark)) := by show _ = _; rw [HL.out]; simp [hm]
      have hd : decide (ts < X.merged) = false := by simpa using hm
      go_enter Tryz.func43, Tryz.ntmps43
      go_wp2
      go_ret
      exact ⟨ret_bool HR.out.symm, rfl⟩
set_option maxRecDepth 100000 in
set_option maxHeartbeats 1000000 in
theorem xfate_any (b : Nat) (X : Eng) (late : Bool) (w : World) (h : MemX w b X) :
    Calls Tryz.prog 44 #[.pointer (some ⟨b, 0, none⟩), .bool late] w fun e w' => e = .returned (.int .i64 (X.fate late)) ∧ w = w' := by
  obtain ⟨_, c2, _⟩ := h.cells
  have HF : Hid (X.fate late = if late then (if X.c.policy = 1 then 1 else if X.c.policy = 2 then 3 else 0) else 2) := rfl
  cases late with
  | false =>
    have HR : Hid (X.fate false = 2) := rfl
    go_enter Tryz.func44, Tryz.ntmps44
    go_wp2
    go_ret
    exact ⟨ret_int HR.out.symm, rfl⟩
  | true =>
    by_cases h1 : X.c.policy = 1
    · have HR : Hid (X.fate true = 1) := by show _ = _; rw [HF.out]; simp [h1]
      rw [h1] at c2
      go_enter Tryz.func44, Tryz.ntmps44
      go_wp2
      go_ret
      exact ⟨ret_int HR.out.symm, rfl⟩
    · by_cases h2 : X.c.policy = 2
      · have HR : Hid (X.fate true = 3) := by show _ = _; rw [HF.out]; simp [h2]
        rw [h2] at c2
        go_enter Tryz.func44, Tryz.ntmps44
        go_wp2
        go_ret
        exact ⟨ret_int HR.out.symm, rfl⟩
      · have HR : Hid (X.fate true = 0) := by show _ = _; rw [HF.out]; simp [h1, h2]
        have d1 : (X.c.policy == 1) = false := by simpa using h1
        have d2 : (X.c.policy == 2) = false := by simpa using h2
        go_enter Tryz.func44, Tryz.ntmps44
        go_wp2
        go_ret
        exact ⟨ret_int HR.out.symm, rfl⟩
set_option maxRecDepth 100000 in
set_option maxHeartbeats 2000000 in
theorem xisFull_any (b : Nat) (X : Eng) (i : Nat) (f : Int) (w : World) (h : MemX w b X) (hs : SaneX X) :
    Calls Tryz.prog 45 #[.pointer (some ⟨b, 0, none⟩), .int .i64 i, .int .i64 f] w fun e w' => e = .returned (.bool (X.full i f)) ∧ Below w.heap.size w w' := by
  obtain ⟨_, _, c3, _, _, _, c8, c9, c10⟩ := h.cells
  have H : Hid (MemX w b X) := h
  have hw := hs.wait
  have hg := hs.log
  have hla := hs.late
  clear h hs
  have HF : Hid (X.full i f = if f = 0 then false else if f = 1 then decide (200 ≤ X.late.length) else (decide (200 ≤ X.wait.length + X.log.length) || decide (X.c.room ≤ X.waitOf i))) := rfl
  by_cases h0 : f = 0
  · subst h0
    have HR : Hid (X.full i 0 = false) := rfl
    go_enter Tryz.func45, Tryz.ntmps45
    go_wp2
    go_ret
    exact ⟨ret_bool HR.out.symm, Below.refl _ _⟩
  · have d0 : (f == 0) = false := by simpa using h0
    by_cases h1 : f = 1
    · subst h1
      have HR : Hid (X.full i 1 = decide ((200 : Int) ≤ (X.late.length : Int))) := by show _ = _; rw [HF.out]; simp; omega
      go_enter Tryz.func45, Tryz.ntmps45
      go_wp2
      go_ret
      exact ⟨ret_bool HR.out.symm, Below.refl _ _⟩
    · have d1 : (f == 1) = false := by simpa using h1
      by_cases h2 : (200 : Int) ≤ (X.wait.length : Int) + (X.log.length : Int)
      · have HR : Hid (X.full i f = true) := by show _ = _; rw [HF.out, if_neg h0, if_neg h1]; simp; left; omega
        clear HF
        go_enter Tryz.func45, Tryz.ntmps45
        go_wp2
        go_quiet (fail)
        go_wp2
        go_ret
        exact ⟨ret_bool HR.out.symm, bdrewN (Below.refl _ _) _⟩
      · have HR : Hid (X.full i f = decide (X.c.room ≤ X.waitOf i)) := by show _ = _; rw [HF.out, if_neg h0, if_neg h1]; simp; intro; omega
        have d2 : decide ((200 : Int) ≤ (X.wait.length : Int) + (X.log.length : Int)) = false := by simpa using h2
        clear HF
        go_enter Tryz.func45, Tryz.ntmps45
        go_wp2
        go_quiet (fail)
        go_upto_region 8 with fail
        obtain ⟨wq, HWq⟩ := hex (w.drewN nq)
        rw [← HWq.out]
        have HMq : Hid (MemX wq b X) := by show MemX _ _ _; rw [HWq.out]; exact H.out.drewN nq
        have HBq : Hid (Below w.heap.size w wq) := by show Below _ _ _; rw [HWq.out]; exact bdrewN (Below.refl _ _) nq
        clear HWq c3 c8 c9 c10 d2 h2
        have c3 := HMq.out.cells.2.2.1
        refine upTo_region (fun u => u.cell? ⟨b, 3, none⟩ = some (.int .i64 X.c.room)) 9 10 rfl (by kernel_rfl) ?_
        have hS0 : (fun u : World => u.cell? ⟨b, 3, none⟩ = some (.int .i64 X.c.room)) wq.drew := c3
        refine upTo_take (i := 0) (v := ?v1_0) rfl (by kernel_rfl) (by kernel_rfl) (by kernel_rfl) (by kernel_rfl) (by rfl) (fun _ _ _ h => h) (by rfl) hS0 ?hy1_0 ?rest1_0
        case hy1_0 => (intro u hu; (try dsimp only at hu); go_simp; first | done | with_reducible rfl)
        (try simp only [Act.put, List.setIfInBounds_toArray, List.set_cons_zero, List.set_cons_succ, List.getElem_toArray, List.getElem_cons_succ, List.getElem_cons_zero])
        refine upTo_take (i := 1) (v := ?v1_1) rfl (by kernel_rfl) (by kernel_rfl) (by kernel_rfl) (by kernel_rfl) (by rfl) (fun _ _ _ h => h) (by rfl) hS0 ?hy1_1 ?rest1_1
        case hy1_1 => (intro u hu; (try dsimp only at hu); go_simp; first | done | with_reducible rfl)
        (try simp only [Act.put, List.setIfInBounds_toArray, List.set_cons_zero, List.set_cons_succ, List.getElem_toArray, List.getElem_cons_succ, List.getElem_cons_zero])
        refine upTo_take (i := 3) (v := ?v1_3) rfl (by kernel_rfl) (by kernel_rfl) (by kernel_rfl) (by kernel_rfl) (by rfl) (fun _ _ _ h => h) (by rfl) hS0 ?hy1_3 ?rest1_3
        case hy1_3 => (intro u hu; (try dsimp only at hu); go_simp; first | done | with_reducible rfl)
        (try simp only [Act.put, List.setIfInBounds_toArray, List.set_cons_zero, List.set_cons_succ, List.getElem_toArray, List.getElem_cons_succ, List.getElem_cons_zero])
        refine upTo_take (i := 4) (v := ?v1_4) rfl (by kernel_rfl) (by kernel_rfl) (by kernel_rfl) (by kernel_rfl) (by rfl) (fun _ _ _ h => h) (by rfl) hS0 ?hy1_4 ?rest1_4
        case hy1_4 => (intro u hu; (try dsimp only at hu); go_simp; first | done | with_reducible rfl)
        (try simp only [Act.put, List.setIfInBounds_toArray, List.set_cons_zero, List.set_cons_succ, List.getElem_toArray, List.getElem_cons_succ, List.getElem_cons_zero])
        refine upTo_take (i := 5) (v := ?v1_5) rfl (by kernel_rfl) (by kernel_rfl) (by kernel_rfl) (by kernel_rfl) (by rfl) (fun _ _ _ h => h) (by rfl) hS0 ?hy1_5 ?rest1_5
        case hy1_5 => (intro u hu; (try dsimp only at hu); go_simp; first | done | with_reducible rfl)
        (try simp only [Act.put, List.setIfInBounds_toArray, List.set_cons_zero, List.set_cons_succ, List.getElem_toArray, List.getElem_cons_succ, List.getElem_cons_zero])
        refine upTo_take (i := 6) (v := ?v1_6) rfl (by kernel_rfl) (by kernel_rfl) (by kernel_rfl) (by kernel_rfl) (by rfl) (fun _ _ _ h => h) (by rfl) hS0 ?hy1_6 ?rest1_6
        case hy1_6 => (intro u hu; (try dsimp only at hu); go_simp; first | done | with_reducible rfl)
        (try simp only [Act.put, List.setIfInBounds_toArray, List.set_cons_zero, List.set_cons_succ, List.getElem_toArray, List.getElem_cons_succ, List.getElem_cons_zero])
        refine upTo_take (i := 7) (v := ?v1_7) rfl (by kernel_rfl) (by kernel_rfl) (by kernel_rfl) (by kernel_rfl) (by rfl) (fun _ _ _ h => h) (by rfl) hS0 ?hy1_7 ?rest1_7
        case hy1_7 => (intro u hu; (try dsimp only at hu); go_simp; first | done | with_reducible rfl)
        (try simp only [Act.put, List.setIfInBounds_toArray, List.set_cons_zero, List.set_cons_succ, List.getElem_toArray, List.getElem_cons_succ, List.getElem_cons_zero])
        refine upTo_one (i := 2) (by kernel_rfl) rfl (fun K hK => ?_)
        go_simp
        refine (xwaitingOf_any b X i _ HMq.out.drew hw).mono ?_
        rintro e w2 ⟨rfl, hb2⟩
        have HB2 : Hid (Below wq.heap.size wq w2) := ⟨hb2.os, hb2.tape, hb2.output, hb2.size, hb2.block⟩
        clear hb2 hS0 c3
        have c3 := (HMq.out.below HB2.out).cells.2.2.1
        refine hK.out _ _ (fun _ => c3) ?_
        clear hK K
        (try simp only [Act.put, List.setIfInBounds_toArray, List.set_cons_zero, List.set_cons_succ, List.getElem_toArray, List.getElem_cons_succ, List.getElem_cons_zero])
        refine upTo_one (i := 8) (by kernel_rfl) rfl (fun K hK => ?_)
        go_simp
        refine hK.out _ _ (fun _ => c3) ?_
        clear hK K
        (try simp only [Act.put, List.setIfInBounds_toArray, List.set_cons_zero, List.set_cons_succ, List.getElem_toArray, List.getElem_cons_succ, List.getElem_cons_zero])
        refine upTo_one (i := 9) (by kernel_rfl) rfl (fun K hK => ?_)
        go_simp
        refine hK.out _ _ (fun h => absurd rfl h) ?_
        clear hK K
        (try simp only [Act.put, List.setIfInBounds_toArray, List.set_cons_zero, List.set_cons_succ, List.getElem_toArray, List.getElem_cons_succ, List.getElem_cons_zero])
        refine upTo_done (by kernel_rfl) ?_
        go_wp2
        go_ret
        exact ⟨ret_bool HR.out.symm, HBq.out.trans (HB2.out.mono HBq.out.size)⟩
set_option maxRecDepth 100000 in
set_option maxHeartbeats 2000000 in
theorem xisAhead_any (A C : Ev) (w : World) : Calls Tryz.prog 94 #[A.agg, C.agg] w fun e w' => e = .returned (.bool (aheadB A C)) ∧ Below w.heap.size w w' := by
  unfold Ev.agg
  by_cases h1 : A.ts = C.ts
  · by_cases h2 : A.src = C.src
    · have HR : Hid (aheadB A C = decide (A.seq < C.seq)) := by show _ = _; simp [aheadB, h1, h2]
      go_enter Tryz.func94, Tryz.ntmps94
      go_wp2
      go_ret
      exact ⟨ret_bool HR.out.symm, ((Below.refl _ _).alloc (Nat.le_refl _) _).alloc (by simp) _⟩
    · have HR : Hid (aheadB A C = decide (A.src < C.src)) := by show _ = _; simp [aheadB, h1, h2]
      have d2 : (A.src != C.src) = true := by simpa using h2
      go_enter Tryz.func94, Tryz.ntmps94
      go_wp2
      go_ret
      exact ⟨ret_bool HR.out.symm, ((Below.refl _ _).alloc (Nat.le_refl _) _).alloc (by simp) _⟩
  · have HR : Hid (aheadB A C = decide (A.ts < C.ts)) := by show _ = _; simp [aheadB, h1]
    have d1 : (A.ts != C.ts) = true := by simpa using h1
    go_enter Tryz.func94, Tryz.ntmps94
    go_wp2
    go_ret
    exact ⟨ret_bool HR.out.symm, ((Below.refl _ _).alloc (Nat.le_refl _) _).alloc (by simp) _⟩
end Go.Proofs.YthiabdpgieppoaaGreat
