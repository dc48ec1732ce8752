import Derived.Test.YtghcololkgeoeabGreatPartA6
namespace Go.Proofs.YtghcololkgeoeabGreat
open Go.RowKit
set_option linter.unusedVariables false
set_option linter.unusedSimpArgs false
attribute [local go_sem ↓] Go.wp_at_zero Go.wp_at_succ

def Ev.agg (e : Ev) : Value := .agg #[.int .i64 e.src, .int .i64 e.seq, .int .i64 e.ts, .int .i64 e.kind, .int .i64 e.val]
def badB (e : Ev) : Bool := decide (e.seq < 0) || decide (1099511627776 < e.seq) || decide (e.kind < 65) || decide (90 < e.kind) || beyondB e.val
def wrongOf (r : RSrc) (e : Ev) : Int := if r.inn = false then 4 else if badB e = true then 5 else if beyondB e.ts = true then 6 else if e.seq ≤ greatest r.seqs (-1) then 7 else 0

set_option maxHeartbeats 1000000 in
theorem rwrong_none (b : Nat) (R : Ref) (s : Int) (E : Ev) (w : World) (hM : MemR w b R) (hs : s < 0 ∨ (R.srcs.length : Int) ≤ s) :
    Calls Tryz.prog 63 #[.pointer (some ⟨b, 0, none⟩), .int .i64 s, E.agg] w fun e w' => e = .returned (.int .i64 3) ∧ Below w.heap.size w w' := by
  have HD : Hid (decide (s < 0 ∨ (R.srcs.length : Int) ≤ s) = true) := by show _ = _; simpa using hs
  clear hs
  unfold Ev.agg
  go_enter Tryz.func63, Tryz.ntmps63
  go_wp2_with (go_at_call 41; refine (rnone_any b R s _ (hM.alloc _)).mono ?_; rintro e w' ⟨rfl, rfl⟩; rw [HD.out])
  go_ret
  exact ⟨rfl, (Below.refl _ _).alloc (Nat.le_refl _) _⟩

set_option maxHeartbeats 4000000 in
theorem rwrong_some (b : Nat) (R : Ref) (i : Nat) (E : Ev) (w : World) (hM : MemR w b R) (hi : i < R.srcs.length) :
    Calls Tryz.prog 63 #[.pointer (some ⟨b, 0, none⟩), .int .i64 i, E.agg] w fun e w' => e = .returned (.int .i64 (wrongOf R.srcs[i] E)) ∧ Below w.heap.size w w' := by
  have HD : Hid (decide ((i : Int) < 0 ∨ (R.srcs.length : Int) ≤ i) = false) := by show _ = _; simp; omega
  obtain ⟨W1, HW1⟩ := hex (w.alloc (.cells #[.int .i64 E.src, .int .i64 E.seq, .int .i64 E.ts, .int .i64 E.kind, .int .i64 E.val] 30))
  have HM1 : Hid (MemR W1 b R) := by show MemR _ _ _; rw [HW1.out]; exact hM.alloc _
  have hB1 : Below w.heap.size w W1 := by rw [HW1.out]; exact (Below.refl _ _).alloc (Nat.le_refl _) _
  have c9 : (w.alloc (.cells #[.int .i64 E.src, .int .i64 E.seq, .int .i64 E.ts, .int .i64 E.kind, .int .i64 E.val] 30)).cell? ⟨b, 9, none⟩ = some (.slice (some ⟨R.sg, 0, none⟩) R.srcs.length R.sc) := (hM.alloc _).cells.2.1
  have s0 := (hM.alloc (.cells #[.int .i64 E.src, .int .i64 E.seq, .int .i64 E.ts, .int .i64 E.kind, .int .i64 E.val] 30)).srcCell i 0 hi (by omega)
  have s3 := (hM.alloc (.cells #[.int .i64 E.src, .int .i64 E.seq, .int .i64 E.ts, .int .i64 E.kind, .int .i64 E.val] 30)).srcCell i 3 hi (by omega)
  have HQ := (hM.alloc (.cells #[.int .i64 E.src, .int .i64 E.seq, .int .i64 E.ts, .int .i64 E.kind, .int .i64 E.val] 30)).sqs i _ (List.getElem?_eq_getElem hi)
  simp only [RSrc.vals, List.getElem?_cons_zero, List.getElem?_cons_succ, Nat.add_zero] at s0 s3
  have hi' : (i : Int) < (R.srcs.length : Int) := by omega
  have hi00 : (0 : Int) ≤ (i : Int) := by omega
  have HM2 : Hid (MemR (w.alloc (.cells #[.int .i64 E.src, .int .i64 E.seq, .int .i64 E.ts, .int .i64 E.kind, .int .i64 E.val] 30)) b R) := hM.alloc _
  have HQ2 : Hid (Row (w.alloc (.cells #[.int .i64 E.src, .int .i64 E.seq, .int .i64 E.ts, .int .i64 E.kind, .int .i64 E.val] 30)) 3 1 R.srcs[i].qa R.srcs[i].seqs.length R.srcs[i].qc (ints R.srcs[i].seqs)) := HQ
  have hfin : Below w.heap.size w (w.alloc (.cells #[.int .i64 E.src, .int .i64 E.seq, .int .i64 E.ts, .int .i64 E.kind, .int .i64 E.val] 30)) := (Below.refl _ _).alloc (Nat.le_refl _) _
  clear HQ HM1 hB1 HW1 hM
  unfold Ev.agg
  unfold wrongOf
  generalize R.srcs[i] = r at *
  cases hin : r.inn with
  | false =>
    rw [hin] at s0
    simp only [if_true]
    go_enter Tryz.func63, Tryz.ntmps63
    go_wp2_with (go_at_call 41; refine (rnone_any b R _ _ HM2.out).mono ?_; rintro e w' ⟨rfl, rfl⟩; rw [HD.out])
    go_ret
    exact ⟨rfl, hfin⟩
  | true =>
    rw [hin] at s0
    simp only [Bool.true_eq_false, if_false]
    unfold badB
    by_cases k1 : E.seq < 0
    · simp only [k1, decide_true, Bool.true_or, if_true]
      go_enter Tryz.func63, Tryz.ntmps63
      go_wp2_with (first
        | (go_at_call 41; refine (rnone_any b R _ _ HM2.out).mono ?_; rintro e w' ⟨rfl, rfl⟩; rw [HD.out])
        | (go_at_call 66; refine (beyond_any _ _).mono ?_; rintro e w' ⟨rfl, rfl⟩))
      go_ret
      exact ⟨rfl, hfin⟩
    · by_cases k2 : 1099511627776 < E.seq
      · simp only [k2, decide_true, Bool.true_or, Bool.or_true, if_true]
        have hd1 : decide (E.seq < 0) = false := by simpa using k1
        go_enter Tryz.func63, Tryz.ntmps63
        go_wp2_with (first
          | (go_at_call 41; refine (rnone_any b R _ _ HM2.out).mono ?_; rintro e w' ⟨rfl, rfl⟩; rw [HD.out])
          | (go_at_call 66; refine (beyond_any _ _).mono ?_; rintro e w' ⟨rfl, rfl⟩))
        go_ret
        exact ⟨rfl, hfin⟩
      · by_cases k3 : E.kind < 65
        · simp only [k3, decide_true, Bool.true_or, Bool.or_true, if_true]
          have hd1 : decide (E.seq < 0) = false := by simpa using k1
          have hd2 : decide (1099511627776 < E.seq) = false := by simpa using k2
          go_enter Tryz.func63, Tryz.ntmps63
          go_wp2_with (first
            | (go_at_call 41; refine (rnone_any b R _ _ HM2.out).mono ?_; rintro e w' ⟨rfl, rfl⟩; rw [HD.out])
            | (go_at_call 66; refine (beyond_any _ _).mono ?_; rintro e w' ⟨rfl, rfl⟩))
          go_ret
          exact ⟨rfl, hfin⟩
        · by_cases k4 : 90 < E.kind
          · simp only [k4, decide_true, Bool.true_or, Bool.or_true, if_true]
            have hd1 : decide (E.seq < 0) = false := by simpa using k1
            have hd2 : decide (1099511627776 < E.seq) = false := by simpa using k2
            have hd3 : decide (E.kind < 65) = false := by simpa using k3
            go_enter Tryz.func63, Tryz.ntmps63
            go_wp2_with (first
              | (go_at_call 41; refine (rnone_any b R _ _ HM2.out).mono ?_; rintro e w' ⟨rfl, rfl⟩; rw [HD.out])
              | (go_at_call 66; refine (beyond_any _ _).mono ?_; rintro e w' ⟨rfl, rfl⟩))
            go_ret
            exact ⟨rfl, hfin⟩
          · have hd1 : decide (E.seq < 0) = false := by simpa using k1
            have hd2 : decide (1099511627776 < E.seq) = false := by simpa using k2
            have hd3 : decide (E.kind < 65) = false := by simpa using k3
            have hd4 : decide (90 < E.kind) = false := by simpa using k4
            simp only [hd1, hd2, hd3, hd4, Bool.false_or]
            cases hv : beyondB E.val with
            | true =>
              have HV : Hid (beyondB E.val = true) := hv
              clear hv
              simp only [if_true]
              go_enter Tryz.func63, Tryz.ntmps63
              go_wp2_with (first
                | (go_at_call 41; refine (rnone_any b R _ _ HM2.out).mono ?_; rintro e w' ⟨rfl, rfl⟩; rw [HD.out])
                | (go_at_call 66; refine (beyond_any _ _).mono ?_; rintro e w' ⟨rfl, rfl⟩; rw [HV.out]))
              go_ret
              exact ⟨rfl, hfin⟩
            | false =>
              have HV : Hid (beyondB E.val = false) := hv
              clear hv
              simp only [Bool.false_eq_true, if_false]
              cases ht : beyondB E.ts with
              | true =>
                have HT : Hid (beyondB E.ts = true) := ht
                clear ht
                simp only [if_true]
                go_enter Tryz.func63, Tryz.ntmps63
                go_wp2_with (first
                  | (go_at_call 41; refine (rnone_any b R _ _ HM2.out).mono ?_; rintro e w' ⟨rfl, rfl⟩; rw [HD.out])
                  | (go_at_call 66; refine (beyond_any _ _).mono ?_; rintro e w' ⟨rfl, rfl⟩; first | rw [HV.out] | rw [HT.out]))
                go_ret
                exact ⟨rfl, hfin⟩
              | false =>
                have HT : Hid (beyondB E.ts = false) := ht
                clear ht
                simp only [Bool.false_eq_true, if_false]
                by_cases hq : E.seq ≤ greatest r.seqs (-1)
                · rw [if_pos hq]
                  go_enter Tryz.func63, Tryz.ntmps63
                  go_wp2_with (first
                    | (go_at_call 41; refine (rnone_any b R _ _ HM2.out).mono ?_; rintro e w' ⟨rfl, rfl⟩; rw [HD.out])
                    | (go_at_call 66; refine (beyond_any _ _).mono ?_; rintro e w' ⟨rfl, rfl⟩; first | rw [HV.out] | rw [HT.out])
                    | (go_at_call 45; refine (greatest_any _ _ _ _ _ HQ2.out).mono ?_; rintro e w' ⟨rfl, rfl⟩))
                  go_ret
                  exact ⟨rfl, hfin⟩
                · rw [if_neg hq]
                  go_enter Tryz.func63, Tryz.ntmps63
                  go_wp2_with (first
                    | (go_at_call 41; refine (rnone_any b R _ _ HM2.out).mono ?_; rintro e w' ⟨rfl, rfl⟩; rw [HD.out])
                    | (go_at_call 66; refine (beyond_any _ _).mono ?_; rintro e w' ⟨rfl, rfl⟩; first | rw [HV.out] | rw [HT.out])
                    | (go_at_call 45; refine (greatest_any _ _ _ _ _ HQ2.out).mono ?_; rintro e w' ⟨rfl, rfl⟩))
                  go_ret
                  exact ⟨rfl, hfin⟩
end Go.Proofs.YtghcololkgeoeabGreat
namespace Go.Proofs.YtghcololkgeoeabGreat
open Go.RowKit
set_option linter.unusedVariables false
set_option linter.unusedSimpArgs false
attribute [local go_sem ↓] Go.wp_at_zero Go.wp_at_succ

def srcAgg (inn idle : Bool) (m n l : Int) : Value := .agg #[.bool inn, .bool idle, .int .i64 m, .int .i64 n, .int .i64 l]
def z5 : List Value := [.bool false, .bool false, .int .i64 0, .int .i64 0, .int .i64 0]
theorem below_set5 {w : World} {b : Nat} {v0 v1 v2 v3 v4 : Value} : Below b w (((((w.setCell ⟨b, 0, none⟩ v0).setCell ⟨b, 1, none⟩ v1).setCell ⟨b, 2, none⟩ v2).setCell ⟨b, 3, none⟩ v3).setCell ⟨b, 4, none⟩ v4) := below_set3.trans below_set2

set_option maxHeartbeats 1000000 in
theorem rof_none (b : Nat) (R : Ref) (s : Int) (w : World) (hM : MemR w b R) (hs : s < 0 ∨ (R.srcs.length : Int) ≤ s) :
    Calls Tryz.prog 15 #[.pointer (some ⟨b, 0, none⟩), .int .i64 s] w fun e w' => e = .returned (.tuple #[srcAgg false false 0 0 0, .int .i64 3]) ∧ Below w.heap.size w w' := by
  have HD : Hid (decide (s < 0 ∨ (R.srcs.length : Int) ≤ s) = true) := by show _ = _; simpa using hs
  clear hs
  go_enter Tryz.func15, Tryz.ntmps15
  go_wp2_with (go_at_call 41; refine (rnone_any b R s _ (hM.alloc _)).mono ?_; rintro e w' ⟨rfl, rfl⟩; rw [HD.out])
  refine bodyPost_ret (v := .tuple #[srcAgg false false 0 0 0, .int .i64 3]) (by simp [results, Tryz.results15, go_sem, srcAgg]) rfl ⟨rfl, ?_⟩
  exact (Below.refl _ _).alloc (Nat.le_refl _) _

set_option maxRecDepth 100000 in
set_option maxHeartbeats 2000000 in
theorem rof_some (b : Nat) (R : Ref) (i : Nat) (w : World) (hM : MemR w b R) (hall : R.all.length ≤ 1000) (hi : i < R.srcs.length) :
    Calls Tryz.prog 15 #[.pointer (some ⟨b, 0, none⟩), .int .i64 i] w fun e w' => e = .returned (.tuple #[srcAgg R.srcs[i].inn (R.isIdle i) (R.mark i) (R.wait i).length (greatest R.srcs[i].seqs (-1)), .int .i64 0]) ∧ Below w.heap.size w w' := by
  have HD : Hid (decide ((i : Int) < 0 ∨ (R.srcs.length : Int) ≤ i) = false) := by show _ = _; simp; omega
  have HA : Hid (MemR (w.alloc (.cells z5.toArray 60)) b R) := hM.alloc _
  have HZ : Hid (Blk (w.alloc (.cells z5.toArray 60)) w.heap.size 60 z5) := blk_alloc _ _ _
  have hi' : (i : Int) < (R.srcs.length : Int) := by omega
  have hi00 : (0 : Int) ≤ (i : Int) := by omega
  go_enter Tryz.func15, Tryz.ntmps15
  go_upto_region 7 with (first
    | (go_at_call 41; refine (rnone_any b R _ _ HA.out).mono ?_; rintro e w' ⟨rfl, rfl⟩; rw [HD.out])
    | (go_at_call 42; refine (rwaiting_any b R i _ HA.out hall).mono ?_; rintro e w2 ⟨a, c, rfl, hown, hb2⟩; have HB2 : Hid (Below (w.alloc (.cells z5.toArray 60)).heap.size (w.alloc (.cells z5.toArray 60)) w2) := hb2; clear hb2 hown; have HM2 : Hid (MemR w2 b R) := HA.out.below HB2.out)
    | (go_at_call 43; refine (ridle_any b R i _ HM2.out hi).mono ?_; rintro e w3 ⟨rfl, nq, hq⟩; have HQ : Hid (w3 = w2.drewN nq) := hq; clear hq; have HM3 : Hid (MemR w3 b R) := by show MemR _ _ _; rw [HQ.out]; exact HM2.out.drewN nq)
    | (go_at_call 44; refine (rmark_any b R i _ HM3.out hi).mono ?_; rintro e w4 ⟨rfl, rfl⟩))
  have HB3 : Hid (Below w.heap.size w w3) := by
    show Below _ _ _
    rw [HQ.out]
    exact bdrewN (((Below.refl _ _).alloc (Nat.le_refl _) _).trans (HB2.out.mono (by simp))) nq
  have HZ3 : Hid (Blk w3 w.heap.size 60 z5) := by
    show Blk _ _ _ _
    rw [HQ.out]
    exact HZ.out.below (bdrewN HB2.out nq) (by simp)
  have c9 := HM3.out.cells.2.1
  have s0 := HM3.out.srcCell i 0 hi (by omega)
  have s3 := HM3.out.srcCell i 3 hi (by omega)
  have HQ3 : Hid (Row w3 3 1 R.srcs[i].qa R.srcs[i].seqs.length R.srcs[i].qc (ints R.srcs[i].seqs)) := HM3.out.sqs i _ (List.getElem?_eq_getElem hi)
  simp only [RSrc.vals, List.getElem?_cons_zero, List.getElem?_cons_succ, Nat.add_zero] at s0 s3
  have r0 := HZ3.out.cell 0
  have r1 := HZ3.out.cell 1
  have r2 := HZ3.out.cell 2
  have r3 := HZ3.out.cell 3
  have r4 := HZ3.out.cell 4
  have g0 := HZ3.out.frozen 0
  have g1 := HZ3.out.frozen 1
  have g2 := HZ3.out.frozen 2
  have g3 := HZ3.out.frozen 3
  have g4 := HZ3.out.frozen 4
  simp only [z5, List.getElem?_cons_zero, List.getElem?_cons_succ] at r0 r1 r2 r3 r4
  have hwl : (R.wait i).length ≤ 1000 := by
    have := List.length_filter_le (waits R.merged i) R.all
    unfold Ref.wait; omega
  go_wp2_with (go_at_call 45; refine (greatest_any _ _ _ _ _ HQ3.out).mono ?_; rintro e w5 ⟨rfl, rfl⟩)
  refine bodyPost_ret (v := .tuple #[srcAgg R.srcs[i].inn (R.isIdle i) (R.mark i) (R.wait i).length (greatest R.srcs[i].seqs (-1)), .int .i64 0]) (by simp [results, Tryz.results15, go_sem, srcAgg, r0, r1, r2, r3, r4]) rfl ⟨rfl, ?_⟩
  exact HB3.out.trans (below_set5)

theorem Evo.drewE {w w' : World} {b : Nat} {R R' : Ref} (h : Evo w b R w' R') : Evo w b R w'.drew R' := ⟨h.mem.drew, h.kept.drew, h.grow⟩
def ticked (n : Int) (r : RSrc) : RSrc := if r.inn then { r with sil := r.sil + n } else r
def tickTo (n : Int) (l : List RSrc) (k : Nat) : List RSrc := (l.take k).map (ticked n) ++ l.drop k
theorem tickTo_len (n : Int) (l : List RSrc) (k : Nat) : (tickTo n l k).length = l.length := by simp [tickTo]; omega
theorem tickTo_get (n : Int) (l : List RSrc) (k : Nat) (hk : k < l.length) : (tickTo n l k)[k]'(by rw [tickTo_len]; exact hk) = l[k] := by
  simp only [tickTo]
  rw [List.getElem_append_right (by simp; omega)]
  simp [Nat.min_eq_left (Nat.le_of_lt hk)]
theorem tickTo_set (n : Int) (l : List RSrc) (k : Nat) (hk : k < l.length) : tickTo n l (k + 1) = (tickTo n l k).set k (ticked n l[k]) := by
  simp only [tickTo]
  rw [List.set_append_right _ _ (by simp; omega)]
  simp only [List.length_map, List.length_take, Nat.min_eq_left (Nat.le_of_lt hk), Nat.sub_self]
  rw [take_succ' l k hk, List.map_append, List.append_assoc, List.drop_eq_getElem_cons hk]
  rfl
def Ref.ticks (R : Ref) (n : Int) : Ref := ({ R with srcs := tickTo n R.srcs R.srcs.length } : Ref).settled

set_option maxHeartbeats 400000 in
theorem rtick_bad (b : Nat) (n : Int) (w : World) (hn : n < 1 ∨ 1000 < n) :
    Calls Tryz.prog 31 #[.pointer (some ⟨b, 0, none⟩), .int .i64 n] w fun e w' => e = .returned (.int .i64 9) ∧ w = w' := by
  by_cases h1 : n < 1
  · clear hn
    go_enter Tryz.func31, Tryz.ntmps31
    go_wp2
    go_ret
    exact ⟨rfl, rfl⟩
  · have h2 : 1000 < n := by omega
    clear hn
    go_enter Tryz.func31, Tryz.ntmps31
    go_wp2
    go_ret
    exact ⟨rfl, rfl⟩

set_option maxRecDepth 100000 in
set_option maxHeartbeats 4000000 in
theorem rtick_ok (N b : Nat) (R : Ref) (n : Int) (w : World) (hM : MemR w b R) (hsane : Sane N R) (hN : N ≤ 8000000000000) (h1 : 1 ≤ n) (h2 : n ≤ 1000) :
    Calls Tryz.prog 31 #[.pointer (some ⟨b, 0, none⟩), .int .i64 n] w fun e w' => e = .returned (.int .i64 0) ∧ Evo w b R w' (R.ticks n) := by
  have h1' : ¬ n < 1 := by omega
  have h2' : ¬ 1000 < n := by omega
  have HSn : Hid (Sane N R) := hsane
  have hn6 := hsane.n
  clear hsane
  go_enter Tryz.func31, Tryz.ntmps31
  go_wp2
  go_loopw [5] (fun s wr => ∃ k : Nat, k ≤ R.srcs.length ∧ s = .int .i64 k ∧ Evo w b R wr { R with srcs := tickTo n R.srcs k }) (fun s _ => R.srcs.length - (intOf s).toNat)
  case atStart => exact ⟨0, Nat.zero_le _, rfl, by simpa [tickTo] using Evo.refl hM⟩
  case round =>
    obtain ⟨k, hk, rfl, hev⟩ := hrel
    obtain ⟨R1, HR1⟩ := hex ({ R with srcs := tickTo n R.srcs k } : Ref)
    have HE1 : Hid (Evo w b R wr R1) := by show Evo _ _ _ _ _; rw [HR1.out]; exact hev
    clear hev
    have hl1 : R1.srcs.length = R.srcs.length := by have := HR1.out; subst this; exact tickTo_len _ _ _
    have c9 := HE1.out.mem.cells.2.1
    by_cases hlt : k < R.srcs.length
    · have hi : k < R1.srcs.length := by omega
      have hi' : (k : Int) < (R1.srcs.length : Int) := by omega
      have hi00 : (0 : Int) ≤ (k : Int) := by omega
      have HG : Hid (R1.srcs[k] = R.srcs[k]) := by show _ = _; have := HR1.out; subst this; exact tickTo_get n R.srcs k hlt
      have s0 := HE1.out.mem.srcCell k 0 hi (by omega)
      have s1 := HE1.out.mem.srcCell k 1 hi (by omega)
      have f1 := HE1.out.mem.srcFrozen (k * 5 + 1) (by omega)
      rw [HG.out] at s0 s1
      simp only [RSrc.vals, List.getElem?_cons_zero, List.getElem?_cons_succ, Nat.add_zero] at s0 s1
      have hsil := HSn.out.sil k _ (List.getElem?_eq_getElem hlt)
      have HT : Hid (tickTo n R.srcs (k + 1) = (tickTo n R.srcs k).set k (ticked n R.srcs[k])) := tickTo_set n R.srcs k hlt
      cases hin : R.srcs[k].inn with
      | false =>
        rw [hin] at s0
        have HN : Hid (({ R with srcs := tickTo n R.srcs (k + 1) } : Ref) = R1) := by
          show _ = _
          rw [HT.out, HR1.out, set_self]
          rw [List.getElem?_eq_getElem (by rw [tickTo_len]; exact hlt), tickTo_get n R.srcs k hlt]
          simp [ticked, hin]
        go_wp2
        go_roundw
        case rel => exact ⟨k + 1, by omega, by go_num, by rw [HN.out]; exact HE1.out⟩
        case measure => simp [intOf]; omega
      | true =>
        rw [hin] at s0
        have hsum : IntKind.i64.wrap (R.srcs[k].sil + n) = R.srcs[k].sil + n := by rw [IntKind.wrap_i64]; omega
        have HN : Hid (Evo wr b R1 (wr.setCell ⟨R1.sg, k * 5 + 1, none⟩ (.int .i64 (R.srcs[k].sil + n))) { R with srcs := tickTo n R.srcs (k + 1) }) := by
          show Evo _ _ _ _ _
          have e := HE1.out.mem.setSrcE (i := k) { R.srcs[k] with sil := R.srcs[k].sil + n } hi 1 (by omega) (.int .i64 (R.srcs[k].sil + n)) (by rw [HG.out]; rfl) (by rw [HG.out]; exact ⟨rfl, rfl, rfl⟩) (by rw [HG.out]; exact ⟨rfl, rfl, rfl⟩)
          have e2 : ({ R with srcs := tickTo n R.srcs (k + 1) } : Ref) = { R1 with srcs := R1.srcs.set k { R.srcs[k] with sil := R.srcs[k].sil + n } } := by
            rw [HT.out, HR1.out]
            simp [ticked, hin]
          rw [e2]
          exact e
        obtain ⟨sil, hsl⟩ : ∃ x, x = R.srcs[k].sil := ⟨_, rfl⟩
        rw [← hsl] at s1 hsil hsum HN
        clear hsl HG
        go_upto_region 7 with fail
        refine upTo_region (fun u => u.cell? ⟨b, 9, none⟩ = some (.slice (some ⟨R1.sg, 0, none⟩) R1.srcs.length R1.sc) ∧ u.cell? ⟨R1.sg, k * 5 + 1, none⟩ = some (.int .i64 sil)) 17 18 rfl (by kernel_rfl) ?_
        have hS0 : (fun u : World => u.cell? ⟨b, 9, none⟩ = some (.slice (some ⟨R1.sg, 0, none⟩) R1.srcs.length R1.sc) ∧ u.cell? ⟨R1.sg, k * 5 + 1, none⟩ = some (.int .i64 sil)) wr.drew := ⟨c9, s1⟩
        refine upTo_tk (i := 0) (v := ?v5_0) rfl (by kernel_rfl) (fun _ _ _ h => h) (by rfl) hS0 ?h5_0 ?r5_0
        case h5_0 => (intro u hu; (try dsimp only at hu); go_simp; first | done | with_reducible rfl)
        (try simp only [Act.put, tkS])
        refine upTo_tk (i := 1) (v := ?v5_1) rfl (by kernel_rfl) (fun _ _ _ h => h) (by rfl) hS0 ?h5_1 ?r5_1
        case h5_1 => (intro u hu; (try dsimp only at hu); go_simp; first | done | with_reducible rfl)
        (try simp only [Act.put, tkS])
        refine upTo_tk (i := 2) (v := ?v5_2) rfl (by kernel_rfl) (fun _ _ _ h => h) (by rfl) hS0 ?h5_2 ?r5_2
        case h5_2 => (intro u hu; (try dsimp only at hu); go_simp; first | done | with_reducible rfl)
        (try simp only [Act.put, tkS])
        refine upTo_tk (i := 3) (v := ?v5_3) rfl (by kernel_rfl) (fun _ _ _ h => h) (by rfl) hS0 ?h5_3 ?r5_3
        case h5_3 => (intro u hu; (try dsimp only at hu); go_simp; first | done | with_reducible rfl)
        (try simp only [Act.put, tkS])
        refine upTo_tk (i := 4) (v := ?v5_4) rfl (by kernel_rfl) (fun _ _ _ h => h) (by rfl) hS0 ?h5_4 ?r5_4
        case h5_4 => (intro u hu; (try dsimp only at hu); go_simp; first | done | with_reducible rfl)
        (try simp only [Act.put, tkS])
        refine upTo_tk (i := 5) (v := ?v5_5) rfl (by kernel_rfl) (fun _ _ _ h => h) (by rfl) hS0 ?h5_5 ?r5_5
        case h5_5 => (intro u hu; (try dsimp only at hu); go_simp; first | done | with_reducible rfl)
        (try simp only [Act.put, tkS])
        refine upTo_tk (i := 6) (v := ?v5_6) rfl (by kernel_rfl) (fun _ _ _ h => h) (by rfl) hS0 ?h5_6 ?r5_6
        case h5_6 => (intro u hu; (try dsimp only at hu); go_simp; first | done | with_reducible rfl)
        (try simp only [Act.put, tkS])
        refine upTo_tk (i := 7) (v := ?v5_7) rfl (by kernel_rfl) (fun _ _ _ h => h) (by rfl) hS0 ?h5_7 ?r5_7
        case h5_7 => (intro u hu; (try dsimp only at hu); go_simp; first | done | with_reducible rfl)
        (try simp only [Act.put, tkS])
        refine upTo_tk (i := 8) (v := ?v5_8) rfl (by kernel_rfl) (fun _ _ _ h => h) (by rfl) hS0 ?h5_8 ?r5_8
        case h5_8 => (intro u hu; (try dsimp only at hu); go_simp; first | done | with_reducible rfl)
        (try simp only [Act.put, tkS])
        refine upTo_tk (i := 9) (v := ?v5_9) rfl (by kernel_rfl) (fun _ _ _ h => h) (by rfl) hS0 ?h5_9 ?r5_9
        case h5_9 => (intro u hu; (try dsimp only at hu); go_simp; first | done | with_reducible rfl)
        (try simp only [Act.put, tkS])
        refine upTo_tk (i := 10) (v := ?v5_10) rfl (by kernel_rfl) (fun _ _ _ h => h) (by rfl) hS0 ?h5_10 ?r5_10
        case h5_10 => (intro u hu; (try dsimp only at hu); go_simp; first | done | with_reducible rfl)
        (try simp only [Act.put, tkS])
        refine upTo_tk (i := 11) (v := ?v5_11) rfl (by kernel_rfl) (fun _ _ _ h => h) (by rfl) hS0 ?h5_11 ?r5_11
        case h5_11 => (intro u hu; (try dsimp only at hu); go_simp; first | done | with_reducible rfl)
        (try simp only [Act.put, tkS])
        refine upTo_tk (i := 12) (v := ?v5_12) rfl (by kernel_rfl) (fun _ _ _ h => h) (by rfl) hS0 ?h5_12 ?r5_12
        case h5_12 => (intro u hu; (try dsimp only at hu); go_simp; first | done | with_reducible rfl)
        (try simp only [Act.put, tkS])
        refine upTo_tk (i := 13) (v := ?v5_13) rfl (by kernel_rfl) (fun _ _ _ h => h) (by rfl) hS0 ?h5_13 ?r5_13
        case h5_13 => (intro u hu; (try dsimp only at hu); go_simp; first | done | with_reducible rfl)
        (try simp only [Act.put, tkS])
        refine upTo_tk (i := 14) (v := ?v5_14) rfl (by kernel_rfl) (fun _ _ _ h => h) (by rfl) hS0 ?h5_14 ?r5_14
        case h5_14 => (intro u hu; (try dsimp only at hu); go_simp; first | done | with_reducible rfl)
        (try simp only [Act.put, tkS])
        refine upTo_one (i := 15) (by kernel_rfl) rfl (fun K hK => ?_)
        go_simp
        refine hK.out _ _ (fun _ => ⟨c9, s1⟩) ?_
        clear hK K
        (try simp only [Act.put, tkS])
        refine upTo_one (i := 16) (by kernel_rfl) rfl (fun K hK => ?_)
        go_simp
        refine hK.out _ _ (fun _ => ⟨c9, s1⟩) ?_
        clear hK K
        (try simp only [Act.put, tkS])
        refine upTo_one (i := 17) (by kernel_rfl) rfl (fun K hK => ?_)
        go_simp
        refine hK.out _ _ (fun h => absurd rfl h) ?_
        clear hK K
        (try simp only [Act.put, tkS])
        refine upTo_done (by kernel_rfl) ?_
        go_wp2
        go_roundw
        case rel => exact ⟨k + 1, by omega, by go_num, (HE1.out.trans HN.out).drewE⟩
        case measure => simp [intOf]; omega
    · obtain rfl : k = R.srcs.length := by omega
      have HH : Hid (R1.all = R.all) := by show _ = _; rw [HR1.out]
      go_wp2_with (go_at_call 54; refine (rsettleE b R1 _ HE1.out.mem (by rw [HH.out]; have := HSn.out.all; omega) (by omega) (by rw [HH.out]; exact HSn.out.ts')).mono ?_; rintro e w9 ⟨rfl, hev⟩)
      go_ret
      exact ⟨rfl, by have := HE1.out.trans hev; rw [HR1.out] at this; exact this⟩
end Go.Proofs.YtghcololkgeoeabGreat
namespace Go.Proofs.YtghcololkgeoeabGreat
open Go.RowKit
set_option linter.unusedVariables false
set_option linter.unusedSimpArgs false

def Ref.bound (R : Ref) (i : Nat) : Int := if (R.isIdle i && decide (R.mark i < R.merged)) then R.merged else R.mark i
def Ref.late (R : Ref) (i : Nat) (e : Ev) : Bool := decide (e.ts < R.bound i)
def Ref.lifts (R : Ref) (i : Nat) (e : Ev) : Bool := R.late i e && decide (R.c.policy = 2) && decide (e.ts < R.merged)
def Ref.stays (R : Ref) (i : Nat) (e : Ev) : Bool := !R.late i e || decide (R.c.policy = 2)
def Ref.taken (R : Ref) (i : Nat) (e : Ev) : Ev := { e with src := i, ts := if R.lifts i e then R.merged else e.ts }
def Ref.full (R : Ref) (i : Nat) (e : Ev) : Bool := (R.stays i e && (decide (R.c.room ≤ (R.wait i).length) || decide (200 ≤ R.all.length))) || (!R.stays i e && decide (R.c.policy = 1) && decide (200 ≤ R.aside.length))
def Placed (P : Ref) (st : Bool) (E : Ev) (Q : Ref) : Prop := (st = true ∧ ∃ aa ac, Q = { P with all := P.all ++ [E], aa := aa, ac := ac }) ∨ (st = false ∧ P.c.policy = 1 ∧ ∃ da dc, Q = { P with aside := P.aside ++ [E], da := da, dc := dc }) ∨ (st = false ∧ P.c.policy ≠ 1 ∧ Q = P)
def pushSrc (R : Ref) (i : Nat) (E : Ev) (r : RSrc) (ma : Option Addr) (mc : Nat) (qa : Option Addr) (qc : Nat) : RSrc := { r with sil := 0, marks := if R.late i E then R.touched i r else R.touched i r ++ [(R.taken i E).ts - R.c.slack], ma := ma, mc := mc, seqs := r.seqs ++ [E.seq], qa := qa, qc := qc }
def PushOk (R : Ref) (i : Nat) (E : Ev) (R' : Ref) : Prop := ∃ hi : i < R.srcs.length, ∃ ma mc qa qc R5, Placed { R with srcs := R.srcs.set i (pushSrc R i E R.srcs[i] ma mc qa qc) } (R.stays i E) (R.taken i E) R5 ∧ R' = R5.settled
end Go.Proofs.YtghcololkgeoeabGreat
