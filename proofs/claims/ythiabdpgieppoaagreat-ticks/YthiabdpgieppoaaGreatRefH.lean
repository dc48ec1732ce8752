import Derived.Test.YthiabdpgieppoaaGreatRefG
namespace Go.Proofs.YthiabdpgieppoaaGreat
open Go.RowKit
set_option linter.unusedVariables false
set_option linter.unusedSimpArgs false
attribute [local go_sem ↓] Go.wp_at_zero Go.wp_at_succ

def Ev.agg (e : Ev) : Value := .agg #[.int .i64 e.src, .int .i64 e.seq, .int .i64 e.ts, .int .i64 e.kind, .int .i64 e.val]
/-- may an event's number, kind and value not be? -/
def badB (e : Ev) : Bool := decide (e.seq < 0) || decide (1099511627776 < e.seq) || decide (e.kind < 65) || decide (90 < e.kind) || beyondB e.val
/-- what is wrong with an event of a source that there is -/
def wrongOf (r : RSrc) (e : Ev) : Int := if r.inn = false then 4 else if badB e = true then 5 else if beyondB e.ts = true then 6 else if e.seq ≤ greatest r.seqs (-1) then 7 else 0

set_option maxHeartbeats 1000000 in
theorem rwrong_none (b : Nat) (R : Ref) (s : Int) (E : Ev) (w : World) (hM : MemR w b R) (hs : s < 0 ∨ (R.srcs.length : Int) ≤ s) :
    Calls Tryz.prog 49 #[.pointer (some ⟨b, 0, none⟩), .int .i64 s, E.agg] w fun e w' => e = .returned (.int .i64 3) ∧ Below w.heap.size w w' := by
  have HD : Hid (decide (s < 0 ∨ (R.srcs.length : Int) ≤ s) = true) := by show _ = _; simpa using hs
  clear hs
  unfold Ev.agg
  go_enter Tryz.func49, Tryz.ntmps49
  go_wp2_with (go_at_call 39; refine (rnone_any b R s _ (hM.alloc _)).mono ?_; rintro e w' ⟨rfl, rfl⟩; rw [HD.out])
  go_ret
  exact ⟨rfl, (Below.refl _ _).alloc (Nat.le_refl _) _⟩

set_option maxHeartbeats 4000000 in
theorem rwrong_some (b : Nat) (R : Ref) (i : Nat) (E : Ev) (w : World) (hM : MemR w b R) (hi : i < R.srcs.length) :
    Calls Tryz.prog 49 #[.pointer (some ⟨b, 0, none⟩), .int .i64 i, E.agg] w fun e w' => e = .returned (.int .i64 (wrongOf R.srcs[i] E)) ∧ Below w.heap.size w w' := by
  have HD : Hid (decide ((i : Int) < 0 ∨ (R.srcs.length : Int) ≤ i) = false) := by show _ = _; simp; omega
  obtain ⟨W1, HW1⟩ := hex (w.alloc (.cells #[.int .i64 E.src, .int .i64 E.seq, .int .i64 E.ts, .int .i64 E.kind, .int .i64 E.val] 32))
  have HM1 : Hid (MemR W1 b R) := by show MemR _ _ _; rw [HW1.out]; exact hM.alloc _
  have hB1 : Below w.heap.size w W1 := by rw [HW1.out]; exact (Below.refl _ _).alloc (Nat.le_refl _) _
  have c9 : (w.alloc (.cells #[.int .i64 E.src, .int .i64 E.seq, .int .i64 E.ts, .int .i64 E.kind, .int .i64 E.val] 32)).cell? ⟨b, 9, none⟩ = some (.slice (some ⟨R.sg, 0, none⟩) R.srcs.length R.sc) := (hM.alloc _).cells.2.1
  have s0 := (hM.alloc (.cells #[.int .i64 E.src, .int .i64 E.seq, .int .i64 E.ts, .int .i64 E.kind, .int .i64 E.val] 32)).srcCell i 0 hi (by omega)
  have s3 := (hM.alloc (.cells #[.int .i64 E.src, .int .i64 E.seq, .int .i64 E.ts, .int .i64 E.kind, .int .i64 E.val] 32)).srcCell i 3 hi (by omega)
  have HQ := (hM.alloc (.cells #[.int .i64 E.src, .int .i64 E.seq, .int .i64 E.ts, .int .i64 E.kind, .int .i64 E.val] 32)).sqs i _ (List.getElem?_eq_getElem hi)
  simp only [RSrc.vals, List.getElem?_cons_zero, List.getElem?_cons_succ, Nat.add_zero] at s0 s3
  have hi' : (i : Int) < (R.srcs.length : Int) := by omega
  have hi00 : (0 : Int) ≤ (i : Int) := by omega
  have HM2 : Hid (MemR (w.alloc (.cells #[.int .i64 E.src, .int .i64 E.seq, .int .i64 E.ts, .int .i64 E.kind, .int .i64 E.val] 32)) b R) := hM.alloc _
  have HQ2 : Hid (Row (w.alloc (.cells #[.int .i64 E.src, .int .i64 E.seq, .int .i64 E.ts, .int .i64 E.kind, .int .i64 E.val] 32)) 3 1 R.srcs[i].qa R.srcs[i].seqs.length R.srcs[i].qc (ints R.srcs[i].seqs)) := HQ
  have hfin : Below w.heap.size w (w.alloc (.cells #[.int .i64 E.src, .int .i64 E.seq, .int .i64 E.ts, .int .i64 E.kind, .int .i64 E.val] 32)) := (Below.refl _ _).alloc (Nat.le_refl _) _
  clear HQ HM1 hB1 HW1 hM
  unfold Ev.agg
  unfold wrongOf
  generalize R.srcs[i] = r at *
  cases hin : r.inn with
  | false =>
    rw [hin] at s0
    simp only [if_true]
    go_enter Tryz.func49, Tryz.ntmps49
    go_wp2_with (go_at_call 39; refine (rnone_any b R _ _ HM2.out).mono ?_; rintro e w' ⟨rfl, rfl⟩; rw [HD.out])
    go_ret
    exact ⟨rfl, hfin⟩
  | true =>
    rw [hin] at s0
    simp only [Bool.true_eq_false, if_false]
    unfold badB
    by_cases k1 : E.seq < 0
    · simp only [k1, decide_true, Bool.true_or, if_true]
      go_enter Tryz.func49, Tryz.ntmps49
      go_wp2_with (first
        | (go_at_call 39; refine (rnone_any b R _ _ HM2.out).mono ?_; rintro e w' ⟨rfl, rfl⟩; rw [HD.out])
        | (go_at_call 55; refine (beyond_any _ _).mono ?_; rintro e w' ⟨rfl, rfl⟩))
      go_ret
      exact ⟨rfl, hfin⟩
    · by_cases k2 : 1099511627776 < E.seq
      · simp only [k2, decide_true, Bool.true_or, Bool.or_true, if_true]
        have hd1 : decide (E.seq < 0) = false := by simpa using k1
        go_enter Tryz.func49, Tryz.ntmps49
        go_wp2_with (first
          | (go_at_call 39; refine (rnone_any b R _ _ HM2.out).mono ?_; rintro e w' ⟨rfl, rfl⟩; rw [HD.out])
          | (go_at_call 55; refine (beyond_any _ _).mono ?_; rintro e w' ⟨rfl, rfl⟩))
        go_ret
        exact ⟨rfl, hfin⟩
      · by_cases k3 : E.kind < 65
        · simp only [k3, decide_true, Bool.true_or, Bool.or_true, if_true]
          have hd1 : decide (E.seq < 0) = false := by simpa using k1
          have hd2 : decide (1099511627776 < E.seq) = false := by simpa using k2
          go_enter Tryz.func49, Tryz.ntmps49
          go_wp2_with (first
            | (go_at_call 39; refine (rnone_any b R _ _ HM2.out).mono ?_; rintro e w' ⟨rfl, rfl⟩; rw [HD.out])
            | (go_at_call 55; refine (beyond_any _ _).mono ?_; rintro e w' ⟨rfl, rfl⟩))
          go_ret
          exact ⟨rfl, hfin⟩
        · by_cases k4 : 90 < E.kind
          · simp only [k4, decide_true, Bool.true_or, Bool.or_true, if_true]
            have hd1 : decide (E.seq < 0) = false := by simpa using k1
            have hd2 : decide (1099511627776 < E.seq) = false := by simpa using k2
            have hd3 : decide (E.kind < 65) = false := by simpa using k3
            go_enter Tryz.func49, Tryz.ntmps49
            go_wp2_with (first
              | (go_at_call 39; refine (rnone_any b R _ _ HM2.out).mono ?_; rintro e w' ⟨rfl, rfl⟩; rw [HD.out])
              | (go_at_call 55; refine (beyond_any _ _).mono ?_; rintro e w' ⟨rfl, rfl⟩))
            go_ret
            exact ⟨rfl, hfin⟩
          · have hd1 : decide (E.seq < 0) = false := by simpa using k1
            have hd2 : decide (1099511627776 < E.seq) = false := by simpa using k2
            have hd3 : decide (E.kind < 65) = false := by simpa using k3
            have hd4 : decide (90 < E.kind) = false := by simpa using k4
            simp only [hd1, hd2, hd3, hd4, Bool.false_or]
            cases hv : beyondB E.val with
            | true =>
              have HV : Hid (beyondB E.val = true) := hv
              clear hv
              simp only [if_true]
              go_enter Tryz.func49, Tryz.ntmps49
              go_wp2_with (first
                | (go_at_call 39; refine (rnone_any b R _ _ HM2.out).mono ?_; rintro e w' ⟨rfl, rfl⟩; rw [HD.out])
                | (go_at_call 55; refine (beyond_any _ _).mono ?_; rintro e w' ⟨rfl, rfl⟩; rw [HV.out]))
              go_ret
              exact ⟨rfl, hfin⟩
            | false =>
              have HV : Hid (beyondB E.val = false) := hv
              clear hv
              simp only [Bool.false_eq_true, if_false]
              cases ht : beyondB E.ts with
              | true =>
                have HT : Hid (beyondB E.ts = true) := ht
                clear ht
                simp only [if_true]
                go_enter Tryz.func49, Tryz.ntmps49
                go_wp2_with (first
                  | (go_at_call 39; refine (rnone_any b R _ _ HM2.out).mono ?_; rintro e w' ⟨rfl, rfl⟩; rw [HD.out])
                  | (go_at_call 55; refine (beyond_any _ _).mono ?_; rintro e w' ⟨rfl, rfl⟩; first | rw [HV.out] | rw [HT.out]))
                go_ret
                exact ⟨rfl, hfin⟩
              | false =>
                have HT : Hid (beyondB E.ts = false) := ht
                clear ht
                simp only [Bool.false_eq_true, if_false]
                by_cases hq : E.seq ≤ greatest r.seqs (-1)
                · rw [if_pos hq]
                  go_enter Tryz.func49, Tryz.ntmps49
                  go_wp2_with (first
                    | (go_at_call 39; refine (rnone_any b R _ _ HM2.out).mono ?_; rintro e w' ⟨rfl, rfl⟩; rw [HD.out])
                    | (go_at_call 55; refine (beyond_any _ _).mono ?_; rintro e w' ⟨rfl, rfl⟩; first | rw [HV.out] | rw [HT.out])
                    | (go_at_call 78; refine (greatest_any _ _ _ _ _ HQ2.out).mono ?_; rintro e w' ⟨rfl, rfl⟩))
                  go_ret
                  exact ⟨rfl, hfin⟩
                · rw [if_neg hq]
                  go_enter Tryz.func49, Tryz.ntmps49
                  go_wp2_with (first
                    | (go_at_call 39; refine (rnone_any b R _ _ HM2.out).mono ?_; rintro e w' ⟨rfl, rfl⟩; rw [HD.out])
                    | (go_at_call 55; refine (beyond_any _ _).mono ?_; rintro e w' ⟨rfl, rfl⟩; first | rw [HV.out] | rw [HT.out])
                    | (go_at_call 78; refine (greatest_any _ _ _ _ _ HQ2.out).mono ?_; rintro e w' ⟨rfl, rfl⟩))
                  go_ret
                  exact ⟨rfl, hfin⟩
end Go.Proofs.YthiabdpgieppoaaGreat
