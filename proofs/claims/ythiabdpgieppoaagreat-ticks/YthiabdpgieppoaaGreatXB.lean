import Derived.Test.YthiabdpgieppoaaGreatXA
namespace Go.Proofs.YthiabdpgieppoaaGreat
open Go.RowKit
set_option linter.unusedVariables false
set_option linter.unusedSimpArgs false
attribute [local go_sem ↓] Go.wp_at_zero Go.wp_at_succ

def evAgg5 (e : Ev) : Value := .agg #[.int .i64 e.src, .int .i64 e.seq, .int .i64 e.ts, .int .i64 e.kind, .int .i64 e.val]
set_option maxRecDepth 100000 in
set_option maxHeartbeats 2000000 in
theorem xwaitingOf_any (b : Nat) (X : Eng) (s : Int) (w : World) (h : MemX w b X) (hall : X.wait.length ≤ 1000) :
    Calls Tryz.prog 76 #[.pointer (some ⟨b, 0, none⟩), .int .i64 s] w fun e w' => e = .returned (.int .i64 (X.waitOf s)) ∧ Below w.heap.size w w' := by
  have hlt0 := h.eng.lt
  have HW : Hid (Row w 32 5 X.wa X.wait.length X.wc (evs X.wait)) := h.wt
  obtain ⟨_, _, _, _, _, _, c8, _⟩ := h.cells
  clear h
  unfold Eng.waitOf
  obtain ⟨L, HL⟩ := hex X.wait
  rw [← HL.out] at HW c8 hall ⊢
  go_enter Tryz.func76, Tryz.ntmps76
  go_wp2
  go_loopw [5, 13] (fun v i wr => ∃ (k : Nat), k ≤ L.length ∧ i = .int .i64 k ∧ v = .int .i64 ((L.take k).filter (fun e => decide (e.src = s))).length ∧ Below w.heap.size w wr) (fun _ i _ => L.length - (intOf i).toNat)
  case atStart => exact ⟨0, Nat.zero_le _, rfl, by simp, Below.refl _ _⟩
  case round =>
    obtain ⟨k, hk, rfl, rfl, hbel⟩ := hrel
    have hfl : ((L.take k).filter (fun e => decide (e.src = s))).length ≤ 1000 := by
      have := List.length_filter_le (fun e : Ev => decide (e.src = s)) (L.take k)
      simp at this; omega
    by_cases hlt : k < L.length
    · have HWr : Hid (Row wr 32 5 X.wa L.length X.wc (evs L)) := ownsRow_of_heap HW.out (fun k hk => hbel.block k hk)
      obtain ⟨g, hg, hnc, e0, e1, e2, e3, e4⟩ := evRow_cells HWr.out k hlt
      have hlt' : (k : Int) < (L.length : Int) := by omega
      have hk0 : (0 : Int) ≤ (k : Int) := by omega
      have hsz := hbel.size
      have HF : Hid ((L.take (k + 1)).filter (fun e => decide (e.src = s)) = (L.take k).filter (fun e => decide (e.src = s)) ++ if decide (L[k].src = s) then [L[k]] else []) := filter_snoc _ _ _ hlt
      clear c8
      rw [hg]
      generalize (L.take k).filter (fun e => decide (e.src = s)) = M at *
      generalize hE : L[k] = E at *
      by_cases t : E.src = s
      · subst t
        go_wp2
        go_roundw
        case rel =>
          refine ⟨k + 1, by omega, by go_num, ?_, hbel.alloc (by omega) _⟩
          rw [HF.out]; simp
        case measure => simp [intOf]; omega
      · have h3 : (E.src == s) = false := by simpa using t
        have hd : decide (E.src = s) = false := by simpa using t
        go_wp2
        go_roundw
        case rel =>
          refine ⟨k + 1, by omega, by go_num, ?_, hbel.alloc (by omega) _⟩
          rw [HF.out, hd]; simp
        case measure => simp [intOf]; omega
    · go_wp2
      go_ret
      exact ⟨ret_int (by rw [List.take_of_length_le (by omega)]), hbel⟩

theorem leastTo_succ {X : Eng} {k : Nat} (hk : k < X.srcs.length) : X.leastTo (k + 1) = if (X.srcs[k].inn && !X.srcs[k].idle && (!(X.leastTo k).2 || decide (X.srcs[k].mark < (X.leastTo k).1))) = true then (X.srcs[k].mark, true) else X.leastTo k := by
  rw [Eng.leastTo, List.getElem?_eq_getElem hk]
set_option maxRecDepth 100000 in
set_option maxHeartbeats 4000000 in
theorem xleast_any (b : Nat) (X : Eng) (w : World) (h : MemX w b X) (hn : X.srcs.length ≤ 6) :
    Calls Tryz.prog 93 #[.pointer (some ⟨b, 0, none⟩)] w fun e w' => e = .returned (.tuple #[.int .i64 (X.leastTo X.srcs.length).1, .bool (X.leastTo X.srcs.length).2]) ∧ Below w.heap.size w w' := by
  have H : Hid (MemX w b X) := h
  obtain ⟨_, _, _, _, c6, _⟩ := h.cells
  clear h
  go_enter Tryz.func93, Tryz.ntmps93
  go_wp2
  go_loopw [4, 5, 13] (fun m a i wr => ∃ (k : Nat), k ≤ X.srcs.length ∧ i = .int .i64 k ∧ m = .int .i64 (X.leastTo k).1 ∧ a = .bool (X.leastTo k).2 ∧ Below w.heap.size w wr) (fun _ _ i _ => X.srcs.length - (intOf i).toNat)
  case atStart => exact ⟨0, Nat.zero_le _, rfl, rfl, rfl, Below.refl _ _⟩
  case round =>
    obtain ⟨k, hk, rfl, rfl, rfl, hbel⟩ := hrel
    by_cases hlt : k < X.srcs.length
    · have hlt' : (k : Int) < (X.srcs.length : Int) := by omega
      have hk0 : (0 : Int) ≤ (k : Int) := by omega
      have hM := H.out.below hbel
      have s0 := hM.srcCell k 0 hlt (by omega)
      have s1 := hM.srcCell k 1 hlt (by omega)
      have s2 := hM.srcCell k 2 hlt (by omega)
      have s3 := hM.srcCell k 3 hlt (by omega)
      have s4 := hM.srcCell k 4 hlt (by omega)
      have s5 := hM.srcCell k 5 hlt (by omega)
      simp only [PSrc.vals, List.getElem?_cons_zero, List.getElem?_cons_succ, Nat.add_zero] at s0 s1 s2 s3 s4 s5
      have hsz := hbel.size
      have HS : Hid (X.leastTo (k + 1) = if (X.srcs[k].inn && !X.srcs[k].idle && (!(X.leastTo k).2 || decide (X.srcs[k].mark < (X.leastTo k).1))) = true then (X.srcs[k].mark, true) else X.leastTo k) := leastTo_succ hlt
      clear c6 hM
      obtain ⟨P, HP⟩ := hex X.srcs[k]
      rw [← HP.out] at s0 s1 s2 s3 s4 s5 HS
      generalize X.leastTo k = q at *
      obtain ⟨q1, q2⟩ := q
      simp only at HS
      generalize hin : P.inn = pin at *
      generalize hid : P.idle = pid at *
      cases pin with
      | false =>
        have HN : Hid (X.leastTo (k + 1) = (q1, q2)) := by show _ = _; rw [HS.out]; simp
        go_wp2
        go_roundw
        case rel => exact ⟨k + 1, by omega, by go_num, by rw [HN.out], by rw [HN.out], hbel.alloc (by omega) _⟩
        case measure => simp [intOf]; omega
      | true =>
        cases pid with
        | true =>
          have HN : Hid (X.leastTo (k + 1) = (q1, q2)) := by show _ = _; rw [HS.out]; simp
          go_wp2
          go_roundw
          case rel => exact ⟨k + 1, by omega, by go_num, by rw [HN.out], by rw [HN.out], hbel.alloc (by omega) _⟩
          case measure => simp [intOf]; omega
        | false =>
          cases q2 with
          | false =>
            have HN : Hid (X.leastTo (k + 1) = (P.mark, true)) := by show _ = _; rw [HS.out]; simp
            go_wp2
            go_roundw
            case rel => exact ⟨k + 1, by omega, by go_num, by rw [HN.out], by rw [HN.out], hbel.alloc (by omega) _⟩
            case measure => simp [intOf]; omega
          | true =>
            by_cases hm : P.mark < q1
            · have HN : Hid (X.leastTo (k + 1) = (P.mark, true)) := by show _ = _; rw [HS.out]; simp [hm]
              go_wp2
              go_roundw
              case rel => exact ⟨k + 1, by omega, by go_num, by rw [HN.out], by rw [HN.out], hbel.alloc (by omega) _⟩
              case measure => simp [intOf]; omega
            · have HN : Hid (X.leastTo (k + 1) = (q1, true)) := by show _ = _; rw [HS.out]; simp [hm]
              have hd : decide (P.mark < q1) = false := by simpa using hm
              go_wp2
              go_roundw
              case rel => exact ⟨k + 1, by omega, by go_num, by rw [HN.out], by rw [HN.out], hbel.alloc (by omega) _⟩
              case measure => simp [intOf]; omega
    · obtain rfl : k = X.srcs.length := by omega
      go_wp2
      refine bodyPost_ret (v := .tuple #[.int .i64 (X.leastTo X.srcs.length).1, .bool (X.leastTo X.srcs.length).2]) (by simp [results, Tryz.results93, go_sem]) rfl ⟨rfl, hbel⟩

theorem lastTs_get (l : List Ev) (h : 0 < l.length) : lastTs l = (l[l.length - 1]'(by omega)).ts := by
  unfold lastTs
  rw [List.getLast?_eq_getElem?, List.getElem?_eq_getElem (by omega)]
set_option maxRecDepth 100000 in
set_option maxHeartbeats 4000000 in
theorem xmerge_any (b : Nat) (X : Eng) (w : World) (h : MemX w b X) (hn : X.srcs.length ≤ 6) (hall : X.wait.length ≤ 1000) (hts : ∀ e ∈ X.wait, -4398046511104 ≤ e.ts ∧ e.ts ≤ 4398046511104) :
    Calls Tryz.prog 73 #[.pointer (some ⟨b, 0, none⟩)] w fun e w' => e = .returned (.tuple #[]) ∧ EvoX w b X w' { X with merged := X.rise } := by
  have H : Hid (MemX w b X) := h
  clear h
  have HA : Hid (X.aim = if (!(X.leastTo X.srcs.length).2 && decide (0 < X.wait.length)) = true then lastTs X.wait + 1 else (X.leastTo X.srcs.length).1) := rfl
  have HR : Hid (X.rise = if X.merged < X.aim then X.aim else X.merged) := rfl
  have fin : Hid (∀ (w2 : World) (m : Int), Below w.heap.size w w2 → X.aim = m → (X.merged < m → EvoX w b X (w2.setCell ⟨b, 7, none⟩ (.int .i64 m)) { X with merged := X.rise }) ∧ (¬ X.merged < m → EvoX w b X w2 { X with merged := X.rise })) := by
    intro w2 m hb hm
    refine ⟨fun hlt => ?_, fun hlt => ?_⟩
    · rw [HR.out, hm, if_pos hlt]
      exact (EvoX.below H.out hb).trans ((H.out.below hb).setMergedE m)
    · rw [HR.out, hm, if_neg hlt]
      exact EvoX.below H.out hb
  go_enter Tryz.func73, Tryz.ntmps73
  go_upto_region 1 with (go_at_call 93; refine (xleast_any b X _ H.out hn).mono ?_; rintro e w2 ⟨rfl, hb2⟩)
  have HB2 : Hid (Below w.heap.size w w2) := hb2
  clear hb2
  obtain ⟨_, _, _, _, _, c7, c8, _⟩ := (H.out.below HB2.out).cells
  have f7 := (H.out.below HB2.out).eng.frozen 7
  generalize X.leastTo X.srcs.length = q at *
  obtain ⟨q1, q2⟩ := q
  simp only at HA ⊢
  cases q2 with
  | true =>
    have HM : Hid (X.aim = q1) := by show _ = _; rw [HA.out]; simp
    by_cases hm : X.merged < q1
    · go_wp2
      go_end0
      exact ⟨rfl, (fin.out _ q1 HB2.out HM.out).1 hm⟩
    · have hd : decide (X.merged < q1) = false := by simpa using hm
      go_wp2
      go_end0
      exact ⟨rfl, (fin.out _ q1 HB2.out HM.out).2 hm⟩
  | false =>
    by_cases h0 : 0 < X.wait.length
    · have HM : Hid (X.aim = (X.wait[X.wait.length - 1]'(by omega)).ts + 1) := by show _ = _; rw [HA.out]; simp [h0, lastTs_get _ h0]
      have hb := hts _ (List.getElem_mem (show X.wait.length - 1 < X.wait.length by omega))
      obtain ⟨g, hg, hnc, _, _, e2, _, _⟩ := evRow_cells (H.out.below HB2.out).wt (X.wait.length - 1) (by omega)
      obtain ⟨t, HT⟩ := hex (X.wait[X.wait.length - 1]'(by omega)).ts
      rw [← HT.out] at e2 HM hb
      have h0' : (0 : Int) < (X.wait.length : Int) := by omega
      rw [hg] at c8
      obtain ⟨n, hn'⟩ : ∃ n : Nat, X.wait.length = n + 1 := ⟨X.wait.length - 1, by omega⟩
      rw [hn'] at c8 h0' hall hnc
      simp only [hn', Nat.add_sub_cancel] at e2
      have hx1 : ((n + 1 : Nat) : Int) - 1 = (n : Int) := by omega
      have hx2 : (0 : Int) ≤ (n : Int) := by omega
      have hx3 : (n : Int) < ((n + 1 : Nat) : Int) := by omega
      by_cases hm : X.merged < t + 1
      · go_wp2
        go_quiet (fail)
        go_wp2
        go_end0
        exact ⟨rfl, (fin.out _ (t + 1) (bdrewN HB2.out _) HM.out).1 hm⟩
      · have hd : decide (X.merged < t + 1) = false := by simpa using hm
        go_wp2
        go_quiet (fail)
        go_wp2
        go_end0
        exact ⟨rfl, (fin.out _ (t + 1) (bdrewN HB2.out _) HM.out).2 hm⟩
    · have HM : Hid (X.aim = q1) := by show _ = _; rw [HA.out]; simp [h0]
      have hw0 : X.wait.length = 0 := by omega
      rw [hw0] at c8
      by_cases hm : X.merged < q1
      · go_wp2
        go_end0
        exact ⟨rfl, (fin.out _ q1 HB2.out HM.out).1 hm⟩
      · have hd : decide (X.merged < q1) = false := by simpa using hm
        go_wp2
        go_end0
        exact ⟨rfl, (fin.out _ q1 HB2.out HM.out).2 hm⟩
end Go.Proofs.YthiabdpgieppoaaGreat
