import Derived.Test.YtghcololkgeoeabGreatPartB0
namespace Go.Proofs.YtghcololkgeoeabGreat
open Go.RowKit
set_option linter.unusedVariables false
set_option linter.unusedSimpArgs false

theorem ret_pair {a b c d : Int} (h1 : a = b) (h2 : c = d) : Ending.returned (.tuple #[.int .i64 a, .int .i64 c]) = .returned (.tuple #[.int .i64 b, .int .i64 d]) := by rw [h1, h2]
def DigN (L : List UInt8) (k : Nat) (n : Int) : Prop := k ≤ L.length ∧ n = numOf 0 (L.take k) ∧ (∀ c ∈ L.take k, isDig c = true) ∧ 0 ≤ n ∧ n < (10 : Int) ^ k
theorem digN_start (L : List UInt8) : DigN L 0 0 := by simp [DigN, numOf]
theorem digN_bd {L : List UInt8} {k : Nat} {n : Int} (h : DigN L k n) (hk : k ≤ 14) : k ≤ L.length ∧ 0 ≤ n ∧ n < 100000000000000 := by
  obtain ⟨h0, _, _, h1, h2⟩ := h
  refine ⟨h0, h1, Int.lt_of_lt_of_le h2 ?_⟩
  have h3 : (10 : Nat) ^ k ≤ 10 ^ 14 := Nat.pow_le_pow_right (by omega) hk
  have h4 : ((10 ^ k : Nat) : Int) ≤ ((10 ^ 14 : Nat) : Int) := by exact_mod_cast h3
  simpa using h4
theorem digN_step {L : List UInt8} {k : Nat} {n : Int} {c : UInt8} (h : DigN L k n) (hc : L[k]? = some c) (h1 : 48 ≤ (c.toNat : Int)) (h2 : (c.toNat : Int) ≤ 57) : DigN L (k + 1) (n * 10 + (c.toNat : Int) - 48) := by
  obtain ⟨a, b, d, e, f⟩ := h
  obtain ⟨hk, hkc⟩ := List.getElem?_eq_some_iff.1 hc
  have ht : L.take (k + 1) = L.take k ++ [c] := by rw [take_succ' L k hk, hkc]
  refine ⟨by omega, ?_, ?_, by omega, ?_⟩
  · rw [ht, numOf_snoc, ← b]; omega
  · rw [ht]
    intro x hx
    rcases List.mem_append.1 hx with hx | hx
    · exact d x hx
    · simp at hx; subst hx; simp only [isDig, decide_eq_true_eq]; omega
  · rw [Int.pow_succ]; omega
def digLen (L : List UInt8) : Nat := min 14 (L.takeWhile isDig).length
theorem digN_end {L : List UInt8} {k : Nat} {n : Int} (h : DigN L k n) (hk : k ≤ 14) (he : k = 14 ∨ L[k]? = none ∨ ∃ c, L[k]? = some c ∧ isDig c = false) : k = digLen L := by
  obtain ⟨a, _, d, _, _⟩ := h
  have h1 : k ≤ (L.takeWhile isDig).length := by
    have : L = L.take k ++ L.drop k := (List.take_append_drop k L).symm
    rw [this, List.takeWhile_append_of_pos d]
    simp [Nat.min_eq_left a]
  unfold digLen
  rcases he with he | he | ⟨c, hc, hd⟩
  · omega
  · have h2 : L.length ≤ k := by rw [List.getElem?_eq_none_iff] at he; exact he
    have h3 : (L.takeWhile isDig).length ≤ L.length := (List.takeWhile_prefix isDig).length_le
    omega
  · have h2 : (L.takeWhile isDig).length ≤ k := by
      have hk' : k < L.length := (List.getElem?_eq_some_iff.1 hc).1
      have e : L = L.take k ++ c :: L.drop (k + 1) := by
        have h5 : L.drop k = c :: L.drop (k + 1) := by rw [List.drop_eq_getElem_cons hk', (List.getElem?_eq_some_iff.1 hc).2]
        rw [← h5, List.take_append_drop]
      rw [e, List.takeWhile_append_of_pos d]
      simp [hd, Nat.min_eq_left a]
    omega
def numAt (l : List UInt8) (i : Nat) : Int × Int :=
  let neg := decide (i < l.length) && decide (byteAt l i = 45)
  let j := if neg then i + 1 else i
  let k := digLen (l.drop j)
  if k < 1 ∨ 13 < k then (0, -1) else (if neg then -(numOf 0 ((l.drop j).take k)) else numOf 0 ((l.drop j).take k), (j : Int) + k)

set_option maxHeartbeats 4000000 in
theorem number_any (s : ByteArray) (i : Nat) (w : World) (hs : s.size ≤ 100) (hi : i ≤ s.size) :
    Calls Tryz.prog 99 #[.string s, .int .i64 i] w fun e w' => e = .returned (.tuple #[.int .i64 (numAt s.data.toList i).1, .int .i64 (numAt s.data.toList i).2]) ∧ w = w' := by
  by_cases hlt0 : i < s.size
  · have hl0 : (i : Int) < (s.size : Int) := by omega
    by_cases h45 : (s[i].toNat : Int) = 45
    · have h45' : ((s[i].toNat : Int) == 45) = true := by simpa using h45
      have HN : Hid (numAt s.data.toList i = if digLen (s.data.toList.drop (i + 1)) < 1 ∨ 13 < digLen (s.data.toList.drop (i + 1)) then (0, -1) else (-(numOf 0 ((s.data.toList.drop (i + 1)).take (digLen (s.data.toList.drop (i + 1))))), ((i + 1 : Nat) : Int) + digLen (s.data.toList.drop (i + 1)))) := by
        show _ = _
        have e : (decide (i < s.data.toList.length) && decide (byteAt s.data.toList i = 45)) = true := by rw [byteAt_lt s i hlt0]; simp [h45]; exact hlt0
        simp only [numAt, e, if_true]
      have H45 : Hid ((s[i].toNat : Int) = 45) := h45
      clear h45
      go_enter Tryz.func99, Tryz.ntmps99
      go_wp2
      go_loopw [7, 8] (fun nv kv wr => ∃ (k : Nat) (n : Int), nv = .int .i64 n ∧ kv = .int .i64 k ∧ k ≤ 14 ∧ Hid (DigN (s.data.toList.drop (i + 1)) k n) ∧ wr = w) (fun _ kv _ => 14 - (intOf kv).toNat)
      case atStart => exact ⟨0, 0, rfl, rfl, by omega, digN_start _, rfl⟩
      case round =>
        obtain ⟨k, n, rfl, rfl, hk, HD, hwr⟩ := hrel
        subst hwr
        obtain ⟨hkl, nb1, nb2⟩ := digN_bd HD.out hk
        have hkl' : k ≤ s.size - (i + 1) := by simpa using hkl
        have hw1 : IntKind.i64.wrap (((i : Int) + 1) + (k : Int)) = ((i : Int) + 1) + (k : Int) := by rw [IntKind.wrap_i64]; omega
        by_cases hlt : i + 1 + k < s.size
        · have hlt' : ((i : Int) + 1) + (k : Int) < (s.size : Int) := by omega
          have h0' : (0 : Int) ≤ ((i : Int) + 1) + (k : Int) := by omega
          have tn : (((i : Int) + 1) + (k : Int)).toNat = i + 1 + k := by omega
          have HX : Hid ((s.data.toList.drop (i + 1))[k]? = some s[i + 1 + k]) := by show _ = _; rw [List.getElem?_drop, List.getElem?_eq_getElem (by simpa using hlt)]; rfl
          obtain ⟨ch, HCh⟩ := hex s[i + 1 + k]
          have hch : s[i + 1 + k] = ch := HCh.out.symm
          have hc255 : (ch.toNat : Int) ≤ 255 := by have := ch.toNat_lt; omega
          by_cases d1 : 48 ≤ (ch.toNat : Int)
          · by_cases d2 : (ch.toNat : Int) ≤ 57
            · by_cases d3 : k ≤ 13
              · have d3' : (k : Int) ≤ 13 := by omega
                go_wp2
                go_roundw
                case rel => exact ⟨k + 1, n * 10 + (ch.toNat : Int) - 48, by go_num, by go_num, by omega, digN_step HD.out (HX.out.trans (by rw [HCh.out])) d1 d2, trivial⟩
                case measure => simp [intOf]; omega
              · have d3' : ¬ (k : Int) ≤ 13 := by omega
                have hke : k = digLen (s.data.toList.drop (i + 1)) := digN_end HD.out hk (Or.inl (by omega))
                have HR : Hid (numAt s.data.toList i = (0, -1)) := by show _ = _; rw [HN.out, ← hke, if_pos (Or.inr (by omega))]
                clear hke
                have d4 : (13 : Int) < (k : Int) := by omega
                have d5 : ¬ (k : Int) < 1 := by omega
                go_wp2
                go_ret2
                exact ⟨ret_pair (by rw [HR.out]) (by rw [HR.out]), rfl⟩
            · have hke : k = digLen (s.data.toList.drop (i + 1)) := digN_end HD.out hk (Or.inr (Or.inr ⟨_, HX.out.trans (by rw [← HCh.out]), by simp [isDig]; omega⟩))
              have HD2 := HD.out.2.1
              by_cases e1 : k < 1
              · have HR : Hid (numAt s.data.toList i = (0, -1)) := by show _ = _; rw [HN.out, ← hke, if_pos (Or.inl e1)]
                have d5 : (k : Int) < 1 := by omega
                clear hke HD2
                go_wp2
                go_ret2
                exact ⟨ret_pair (by rw [HR.out]) (by rw [HR.out]), rfl⟩
              · by_cases e2 : 13 < k
                · have HR : Hid (numAt s.data.toList i = (0, -1)) := by show _ = _; rw [HN.out, ← hke, if_pos (Or.inr e2)]
                  have d5 : ¬ (k : Int) < 1 := by omega
                  have d4 : (13 : Int) < (k : Int) := by omega
                  clear hke HD2
                  go_wp2
                  go_ret2
                  exact ⟨ret_pair (by rw [HR.out]) (by rw [HR.out]), rfl⟩
                · have HR : Hid (numAt s.data.toList i = (-n, ((i : Int) + 1) + (k : Int))) := by show _ = _; rw [HN.out, ← hke, if_neg (by omega), ← HD2] <;> simp
                  have d5 : ¬ (k : Int) < 1 := by omega
                  have d4 : ¬ (13 : Int) < (k : Int) := by omega
                  clear hke HD2
                  go_wp2
                  go_ret2
                  exact ⟨ret_pair (by rw [HR.out]) (by rw [HR.out]), rfl⟩
          · have hke : k = digLen (s.data.toList.drop (i + 1)) := digN_end HD.out hk (Or.inr (Or.inr ⟨_, HX.out.trans (by rw [← HCh.out]), by simp [isDig]; omega⟩))
            have HD2 := HD.out.2.1
            by_cases e1 : k < 1
            · have HR : Hid (numAt s.data.toList i = (0, -1)) := by show _ = _; rw [HN.out, ← hke, if_pos (Or.inl e1)]
              have d5 : (k : Int) < 1 := by omega
              clear hke HD2
              go_wp2
              go_ret2
              exact ⟨ret_pair (by rw [HR.out]) (by rw [HR.out]), rfl⟩
            · by_cases e2 : 13 < k
              · have HR : Hid (numAt s.data.toList i = (0, -1)) := by show _ = _; rw [HN.out, ← hke, if_pos (Or.inr e2)]
                have d5 : ¬ (k : Int) < 1 := by omega
                have d4 : (13 : Int) < (k : Int) := by omega
                clear hke HD2
                go_wp2
                go_ret2
                exact ⟨ret_pair (by rw [HR.out]) (by rw [HR.out]), rfl⟩
              · have HR : Hid (numAt s.data.toList i = (-n, ((i : Int) + 1) + (k : Int))) := by show _ = _; rw [HN.out, ← hke, if_neg (by omega), ← HD2] <;> simp
                have d5 : ¬ (k : Int) < 1 := by omega
                have d4 : ¬ (13 : Int) < (k : Int) := by omega
                clear hke HD2
                go_wp2
                go_ret2
                exact ⟨ret_pair (by rw [HR.out]) (by rw [HR.out]), rfl⟩
        · have hlt2 : ¬ ((i : Int) + 1) + (k : Int) < (s.size : Int) := by omega
          have hke : k = digLen (s.data.toList.drop (i + 1)) := digN_end HD.out hk (Or.inr (Or.inl (by rw [List.getElem?_eq_none_iff]; simp; omega)))
          have HD2 := HD.out.2.1
          by_cases e1 : k < 1
          · have HR : Hid (numAt s.data.toList i = (0, -1)) := by show _ = _; rw [HN.out, ← hke, if_pos (Or.inl e1)]
            have d5 : (k : Int) < 1 := by omega
            clear hke HD2
            go_wp2
            go_ret2
            exact ⟨ret_pair (by rw [HR.out]) (by rw [HR.out]), rfl⟩
          · by_cases e2 : 13 < k
            · have HR : Hid (numAt s.data.toList i = (0, -1)) := by show _ = _; rw [HN.out, ← hke, if_pos (Or.inr e2)]
              have d5 : ¬ (k : Int) < 1 := by omega
              have d4 : (13 : Int) < (k : Int) := by omega
              clear hke HD2
              go_wp2
              go_ret2
              exact ⟨ret_pair (by rw [HR.out]) (by rw [HR.out]), rfl⟩
            · have HR : Hid (numAt s.data.toList i = (-n, ((i : Int) + 1) + (k : Int))) := by show _ = _; rw [HN.out, ← hke, if_neg (by omega), ← HD2] <;> simp
              have d5 : ¬ (k : Int) < 1 := by omega
              have d4 : ¬ (13 : Int) < (k : Int) := by omega
              clear hke HD2
              go_wp2
              go_ret2
              exact ⟨ret_pair (by rw [HR.out]) (by rw [HR.out]), rfl⟩
    · have h45' : ((s[i].toNat : Int) == 45) = false := by simpa using h45
      have HN : Hid (numAt s.data.toList i = if digLen (s.data.toList.drop i) < 1 ∨ 13 < digLen (s.data.toList.drop i) then (0, -1) else (numOf 0 ((s.data.toList.drop i).take (digLen (s.data.toList.drop i))), (i : Int) + digLen (s.data.toList.drop i))) := by
        show _ = _
        have e : (decide (i < s.data.toList.length) && decide (byteAt s.data.toList i = 45)) = false := by rw [byteAt_lt s i hlt0]; simp [h45]
        simp only [numAt, e, Bool.false_eq_true, if_false]
      clear h45
      go_enter Tryz.func99, Tryz.ntmps99
      go_wp2
      go_loopw [7, 8] (fun nv kv wr => ∃ (k : Nat) (n : Int), nv = .int .i64 n ∧ kv = .int .i64 k ∧ k ≤ 14 ∧ Hid (DigN (s.data.toList.drop (i)) k n) ∧ wr = w) (fun _ kv _ => 14 - (intOf kv).toNat)
      case atStart => exact ⟨0, 0, rfl, rfl, by omega, digN_start _, rfl⟩
      case round =>
        obtain ⟨k, n, rfl, rfl, hk, HD, hwr⟩ := hrel
        subst hwr
        obtain ⟨hkl, nb1, nb2⟩ := digN_bd HD.out hk
        have hkl' : k ≤ s.size - (i) := by simpa using hkl
        have hw1 : IntKind.i64.wrap ((i : Int) + (k : Int)) = (i : Int) + (k : Int) := by rw [IntKind.wrap_i64]; omega
        by_cases hlt : i + k < s.size
        · have hlt' : (i : Int) + (k : Int) < (s.size : Int) := by omega
          have h0' : (0 : Int) ≤ (i : Int) + (k : Int) := by omega
          have tn : ((i : Int) + (k : Int)).toNat = i + k := by omega
          have HX : Hid ((s.data.toList.drop (i))[k]? = some s[i + k]) := by show _ = _; rw [List.getElem?_drop, List.getElem?_eq_getElem (by simpa using hlt)]; rfl
          obtain ⟨ch, HCh⟩ := hex s[i + k]
          have hch : s[i + k] = ch := HCh.out.symm
          have hc255 : (ch.toNat : Int) ≤ 255 := by have := ch.toNat_lt; omega
          by_cases d1 : 48 ≤ (ch.toNat : Int)
          · by_cases d2 : (ch.toNat : Int) ≤ 57
            · by_cases d3 : k ≤ 13
              · have d3' : (k : Int) ≤ 13 := by omega
                go_wp2
                go_roundw
                case rel => exact ⟨k + 1, n * 10 + (ch.toNat : Int) - 48, by go_num, by go_num, by omega, digN_step HD.out (HX.out.trans (by rw [HCh.out])) d1 d2, trivial⟩
                case measure => simp [intOf]; omega
              · have d3' : ¬ (k : Int) ≤ 13 := by omega
                have hke : k = digLen (s.data.toList.drop (i)) := digN_end HD.out hk (Or.inl (by omega))
                have HR : Hid (numAt s.data.toList i = (0, -1)) := by show _ = _; rw [HN.out, ← hke, if_pos (Or.inr (by omega))]
                clear hke
                have d4 : (13 : Int) < (k : Int) := by omega
                have d5 : ¬ (k : Int) < 1 := by omega
                go_wp2
                go_ret2
                exact ⟨ret_pair (by rw [HR.out]) (by rw [HR.out]), rfl⟩
            · have hke : k = digLen (s.data.toList.drop (i)) := digN_end HD.out hk (Or.inr (Or.inr ⟨_, HX.out.trans (by rw [← HCh.out]), by simp [isDig]; omega⟩))
              have HD2 := HD.out.2.1
              by_cases e1 : k < 1
              · have HR : Hid (numAt s.data.toList i = (0, -1)) := by show _ = _; rw [HN.out, ← hke, if_pos (Or.inl e1)]
                have d5 : (k : Int) < 1 := by omega
                clear hke HD2
                go_wp2
                go_ret2
                exact ⟨ret_pair (by rw [HR.out]) (by rw [HR.out]), rfl⟩
              · by_cases e2 : 13 < k
                · have HR : Hid (numAt s.data.toList i = (0, -1)) := by show _ = _; rw [HN.out, ← hke, if_pos (Or.inr e2)]
                  have d5 : ¬ (k : Int) < 1 := by omega
                  have d4 : (13 : Int) < (k : Int) := by omega
                  clear hke HD2
                  go_wp2
                  go_ret2
                  exact ⟨ret_pair (by rw [HR.out]) (by rw [HR.out]), rfl⟩
                · have HR : Hid (numAt s.data.toList i = (n, (i : Int) + (k : Int))) := by show _ = _; rw [HN.out, ← hke, if_neg (by omega), ← HD2] <;> simp
                  have d5 : ¬ (k : Int) < 1 := by omega
                  have d4 : ¬ (13 : Int) < (k : Int) := by omega
                  clear hke HD2
                  go_wp2
                  go_ret2
                  exact ⟨ret_pair (by rw [HR.out]) (by rw [HR.out]), rfl⟩
          · have hke : k = digLen (s.data.toList.drop (i)) := digN_end HD.out hk (Or.inr (Or.inr ⟨_, HX.out.trans (by rw [← HCh.out]), by simp [isDig]; omega⟩))
            have HD2 := HD.out.2.1
            by_cases e1 : k < 1
            · have HR : Hid (numAt s.data.toList i = (0, -1)) := by show _ = _; rw [HN.out, ← hke, if_pos (Or.inl e1)]
              have d5 : (k : Int) < 1 := by omega
              clear hke HD2
              go_wp2
              go_ret2
              exact ⟨ret_pair (by rw [HR.out]) (by rw [HR.out]), rfl⟩
            · by_cases e2 : 13 < k
              · have HR : Hid (numAt s.data.toList i = (0, -1)) := by show _ = _; rw [HN.out, ← hke, if_pos (Or.inr e2)]
                have d5 : ¬ (k : Int) < 1 := by omega
                have d4 : (13 : Int) < (k : Int) := by omega
                clear hke HD2
                go_wp2
                go_ret2
                exact ⟨ret_pair (by rw [HR.out]) (by rw [HR.out]), rfl⟩
              · have HR : Hid (numAt s.data.toList i = (n, (i : Int) + (k : Int))) := by show _ = _; rw [HN.out, ← hke, if_neg (by omega), ← HD2] <;> simp
                have d5 : ¬ (k : Int) < 1 := by omega
                have d4 : ¬ (13 : Int) < (k : Int) := by omega
                clear hke HD2
                go_wp2
                go_ret2
                exact ⟨ret_pair (by rw [HR.out]) (by rw [HR.out]), rfl⟩
        · have hlt2 : ¬ (i : Int) + (k : Int) < (s.size : Int) := by omega
          have hke : k = digLen (s.data.toList.drop (i)) := digN_end HD.out hk (Or.inr (Or.inl (by rw [List.getElem?_eq_none_iff]; simp; omega)))
          have HD2 := HD.out.2.1
          by_cases e1 : k < 1
          · have HR : Hid (numAt s.data.toList i = (0, -1)) := by show _ = _; rw [HN.out, ← hke, if_pos (Or.inl e1)]
            have d5 : (k : Int) < 1 := by omega
            clear hke HD2
            go_wp2
            go_ret2
            exact ⟨ret_pair (by rw [HR.out]) (by rw [HR.out]), rfl⟩
          · by_cases e2 : 13 < k
            · have HR : Hid (numAt s.data.toList i = (0, -1)) := by show _ = _; rw [HN.out, ← hke, if_pos (Or.inr e2)]
              have d5 : ¬ (k : Int) < 1 := by omega
              have d4 : (13 : Int) < (k : Int) := by omega
              clear hke HD2
              go_wp2
              go_ret2
              exact ⟨ret_pair (by rw [HR.out]) (by rw [HR.out]), rfl⟩
            · have HR : Hid (numAt s.data.toList i = (n, (i : Int) + (k : Int))) := by show _ = _; rw [HN.out, ← hke, if_neg (by omega), ← HD2] <;> simp
              have d5 : ¬ (k : Int) < 1 := by omega
              have d4 : ¬ (13 : Int) < (k : Int) := by omega
              clear hke HD2
              go_wp2
              go_ret2
              exact ⟨ret_pair (by rw [HR.out]) (by rw [HR.out]), rfl⟩
  · have hl0 : ¬ (i : Int) < (s.size : Int) := by omega
    have HN : Hid (numAt s.data.toList i = (0, -1)) := by
      show _ = _
      have e : (decide (i < s.data.toList.length) && decide (byteAt s.data.toList i = 45)) = false := by simp; omega
      have e2 : digLen (s.data.toList.drop i) = 0 := by rw [List.drop_eq_nil_of_le (by simp; omega)]; simp [digLen]
      simp only [numAt, e, Bool.false_eq_true, if_false, e2]
      simp
    go_enter Tryz.func99, Tryz.ntmps99
    go_wp2
    refine wp_loop_rounds 1 ?_
    rw [rounds_succ]
    go_wp2
    go_ret2
    exact ⟨ret_pair (by rw [HN.out]) (by rw [HN.out]), rfl⟩

def blankAt (l : List UInt8) (i : Int) : Int := if i < 0 ∨ (l.length : Int) ≤ i ∨ byteAt l i.toNat ≠ 32 then -1 else i + 1
set_option maxHeartbeats 1000000 in
theorem blank_any (s : ByteArray) (i : Int) (w : World) (hs : s.size ≤ 100) :
    Calls Tryz.prog 100 #[.string s, .int .i64 i] w fun e w' => e = .returned (.int .i64 (blankAt s.data.toList i)) ∧ w = w' := by
  unfold blankAt
  by_cases h0 : i < 0
  · rw [if_pos (Or.inl h0)]
    go_enter Tryz.func100, Tryz.ntmps100
    go_wp2
    go_ret
    exact ⟨rfl, rfl⟩
  · by_cases h1 : (s.size : Int) ≤ i
    · rw [if_pos (Or.inr (Or.inl (by simpa using h1)))]
      go_enter Tryz.func100, Tryz.ntmps100
      go_wp2
      go_ret
      exact ⟨rfl, rfl⟩
    · obtain ⟨k, rfl⟩ := Int.eq_ofNat_of_zero_le (by omega : 0 ≤ i)
      have hk : k < s.size := by omega
      have hb : byteAt s.data.toList (k : Int).toNat = (s[k].toNat : Int) := by rw [Int.toNat_natCast]; exact byteAt_lt s k hk
      have hk' : (k : Int) < (s.size : Int) := by omega
      have hk0 : (0 : Int) ≤ (k : Int) := by omega
      by_cases h2 : (s[k].toNat : Int) = 32
      · rw [if_neg (by rw [hb]; simp; omega)]
        have h2' : ((s[k].toNat : Int) != 32) = false := by simpa using h2
        clear h2 hb
        go_enter Tryz.func100, Tryz.ntmps100
        go_wp2
        go_ret
        exact ⟨rfl, rfl⟩
      · rw [if_pos (Or.inr (Or.inr (by rw [hb]; exact h2)))]
        have h2' : ((s[k].toNat : Int) != 32) = true := by simpa using h2
        clear h2 hb
        go_enter Tryz.func100, Tryz.ntmps100
        go_wp2
        go_ret
        exact ⟨rfl, rfl⟩
end Go.Proofs.YtghcololkgeoeabGreat
namespace Go.Proofs.YtghcololkgeoeabGreat
open Go.RowKit
set_option linter.unusedVariables false
set_option linter.unusedSimpArgs false

theorem head2 (s : ByteArray) : (s.extract 0 2).toList = s.data.toList.take 2 := by rw [Lib.extract_toList]; simp
theorem ret_ib {a b : Int} {c d : Bool} (h1 : a = b) (h2 : c = d) : Ending.returned (.tuple #[.int .i64 a, .bool c]) = .returned (.tuple #[.int .i64 b, .bool d]) := by rw [h1, h2]
def punctOf (l : List UInt8) : Int × Bool := if (l.take 2 == [80, 32]) then ((numAt l 2).1, decide ((numAt l 2).2 = (l.length : Int))) else (0, false)
theorem take2_len {l : List UInt8} {a b : UInt8} (h : (l.take 2 == [a, b]) = true) : 2 ≤ l.length := by
  have e := congrArg List.length (eq_of_beq h)
  simp at e; omega
set_option maxHeartbeats 1000000 in
theorem punct_any (s : ByteArray) (w : World) (hs : s.size ≤ 100) :
    Calls Tryz.prog 89 #[.string s] w fun e w' => e = .returned (.tuple #[.int .i64 (punctOf s.data.toList).1, .bool (punctOf s.data.toList).2]) ∧ w = w' := by
  by_cases h2 : s.size < 2
  · have HP : Hid (punctOf s.data.toList = (0, false)) := by
      show _ = _
      unfold punctOf
      rw [if_neg]
      intro h
      have := take2_len h
      simp at this; omega
    have h2' : (s.size : Int) < 2 := by omega
    go_enter Tryz.func89, Tryz.ntmps89
    go_wp2
    go_ret2
    exact ⟨ret_ib (by rw [HP.out]) (by rw [HP.out]), rfl⟩
  · have h2' : ¬ (s.size : Int) < 2 := by omega
    have h2'' : (2 : Int) ≤ (s.size : Int) := by omega
    cases hh : (s.data.toList.take 2 == [80, 32]) with
    | false =>
      have HP : Hid (punctOf s.data.toList = (0, false)) := by show _ = _; simp [punctOf, hh]
      have ht : ((s.extract 0 2).toList == [80, 32]) = false := by rw [head2]; exact hh
      clear hh
      go_enter Tryz.func89, Tryz.ntmps89
      go_wp2
      go_ret2
      exact ⟨ret_ib (by rw [HP.out]) (by rw [HP.out]), rfl⟩
    | true =>
      have HP : Hid (punctOf s.data.toList = ((numAt s.data.toList 2).1, decide ((numAt s.data.toList 2).2 = (s.data.toList.length : Int)))) := by show _ = _; simp [punctOf, hh]
      have ht : ((s.extract 0 2).toList == [80, 32]) = true := by rw [head2]; exact hh
      clear hh
      go_enter Tryz.func89, Tryz.ntmps89
      go_wp2_with (go_at_call 99; refine (number_any s 2 _ hs (by omega)).mono ?_; rintro e w' ⟨rfl, rfl⟩)
      go_ret2
      refine ⟨ret_ib (by rw [HP.out]) ?_, rfl⟩
      rw [HP.out]
      by_cases e : (numAt s.data.toList 2).2 = (s.size : Int)
      · simp [e]
      · simp [e]
end Go.Proofs.YtghcololkgeoeabGreat
namespace Go.Proofs.YtghcololkgeoeabGreat
open Go.RowKit
set_option linter.unusedVariables false
set_option linter.unusedSimpArgs false

def evP1 (l : List UInt8) : Int := blankAt l (numAt l 2).2
def evP2 (l : List UInt8) : Int := blankAt l (numAt l (evP1 l).toNat).2
def evP3 (l : List UInt8) : Int := blankAt l (evP2 l + 1)
def isEv (l : List UInt8) : Bool := (l.take 2 == [69, 32]) && !decide (evP1 l < 0) && !decide (evP2 l < 0) && !decide ((l.length : Int) ≤ evP2 l) && !decide (byteAt l (evP2 l).toNat < 65) && !decide (90 < byteAt l (evP2 l).toNat) && !decide (evP3 l < 0) && decide ((numAt l (evP3 l).toNat).2 = (l.length : Int))
def evOf (l : List UInt8) : Ev := ⟨0, (numAt l 2).1, (numAt l (evP1 l).toNat).1, byteAt l (evP2 l).toNat, (numAt l (evP3 l).toNat).1⟩
theorem blankAt_le (l : List UInt8) (i : Int) (h : ¬ blankAt l i < 0) : 0 ≤ blankAt l i ∧ blankAt l i ≤ l.length := by
  unfold blankAt at *
  split at h
  · omega
  · rename_i hn
    rw [if_neg hn]
    omega
def EvIs (l : List UInt8) (w : World) (e : Ending) (w' : World) : Prop := ∃ E : Ev, e = .returned (.tuple #[E.agg, .bool (isEv l)]) ∧ (isEv l = true → E = evOf l) ∧ Below w.heap.size w w'
theorem tn2 : (2 : Int).toNat = 2 := rfl
theorem number_at (s : ByteArray) (j : Int) (w : World) (hs : s.size ≤ 100) (h0 : 0 ≤ j) (h1 : j ≤ (s.size : Int)) :
    Calls Tryz.prog 99 #[.string s, .int .i64 j] w fun e w' => e = .returned (.tuple #[.int .i64 (numAt s.data.toList j.toNat).1, .int .i64 (numAt s.data.toList j.toNat).2]) ∧ w = w' := by
  obtain ⟨i, rfl⟩ := Int.eq_ofNat_of_zero_le h0
  exact number_any s i w hs (by omega)
set_option maxRecDepth 100000 in
set_option maxHeartbeats 4000000 in
theorem event_any (s : ByteArray) (w : World) (hs : s.size ≤ 100) : Calls Tryz.prog 88 #[.string s] w (EvIs s.data.toList w) := by
  have hlen : s.data.toList.length = s.size := by simp
  have hfin : ∀ o o2, Below w.heap.size w ((w.alloc o).alloc o2) := fun o o2 => ((Below.refl _ _).alloc (Nat.le_refl _) o).alloc (by simp) o2
  by_cases h2 : s.size < 2
  · have HP : Hid (isEv s.data.toList = false) := by
      show _ = _
      cases hh : (s.data.toList.take 2 == [69, 32]) with
      | false => simp [isEv, hh]
      | true => have := take2_len hh; omega
    have h2' : (s.size : Int) < 2 := by omega
    go_enter Tryz.func88, Tryz.ntmps88
    go_wp2
    refine bodyPost_ret (v := .tuple #[Ev.agg ⟨0, 0, 0, 0, 0⟩, .bool false]) (by simp [results, Tryz.results88, go_sem, Ev.agg]) rfl ⟨⟨0, 0, 0, 0, 0⟩, by rw [HP.out], fun h => absurd h (by rw [HP.out]; simp), hfin _ _⟩
  · have h2' : ¬ (s.size : Int) < 2 := by omega
    have h2'' : (2 : Int) ≤ (s.size : Int) := by omega
    cases hh : (s.data.toList.take 2 == [69, 32]) with
    | false =>
      have HP : Hid (isEv s.data.toList = false) := by show _ = _; simp [isEv, hh]
      have ht : ((s.extract 0 2).toList == [69, 32]) = false := by rw [head2]; exact hh
      clear hh
      go_enter Tryz.func88, Tryz.ntmps88
      go_wp2
      refine bodyPost_ret (v := .tuple #[Ev.agg ⟨0, 0, 0, 0, 0⟩, .bool false]) (by simp [results, Tryz.results88, go_sem, Ev.agg]) rfl ⟨⟨0, 0, 0, 0, 0⟩, by rw [HP.out], fun h => absurd h (by rw [HP.out]; simp), hfin _ _⟩
    | true =>
      have HH : Hid ((s.data.toList.take 2 == [69, 32]) = true) := hh
      have ht : ((s.extract 0 2).toList == [69, 32]) = true := by rw [head2]; exact hh
      clear hh
      by_cases q1 : evP1 s.data.toList < 0
      · have HP : Hid (isEv s.data.toList = false) := by show _ = _; simp [isEv, q1]
        have Q1 : Hid (evP1 s.data.toList = blankAt s.data.toList (numAt s.data.toList 2).2) := rfl
        go_enter Tryz.func88, Tryz.ntmps88
        go_wp2_with (first
          | (go_at_call 99; refine (number_any s 2 _ hs (by omega)).mono ?_; rintro e w' ⟨rfl, rfl⟩)
          | (go_at_call 100; refine (blank_any s _ _ hs).mono ?_; rintro e w' ⟨rfl, rfl⟩; rw [← Q1.out]))
        refine bodyPost_ret (v := .tuple #[Ev.agg ⟨0, (numAt s.data.toList 2).1, 0, 0, 0⟩, .bool false]) (by simp [results, Tryz.results88, go_sem, Ev.agg]) rfl ⟨⟨0, (numAt s.data.toList 2).1, 0, 0, 0⟩, by rw [HP.out], fun h => absurd h (by rw [HP.out]; simp), hfin _ _⟩
      · -- BEHIND the first blank
        obtain ⟨hp1a, hp1b⟩ := blankAt_le _ _ q1
        obtain ⟨p1, hp1⟩ := Int.eq_ofNat_of_zero_le hp1a
        have hp1c : p1 ≤ s.size := by have : (blankAt s.data.toList (numAt s.data.toList 2).2) ≤ (s.data.toList.length : Int) := hp1b; rw [hp1] at this; omega
        have X1 : Hid (blankAt s.data.toList (numAt s.data.toList 2).2 = (p1 : Int)) := hp1
        have Y1 : Hid (evP1 s.data.toList = (p1 : Int)) := hp1
        have Z2 : Hid (evP2 s.data.toList = blankAt s.data.toList (numAt s.data.toList p1).2) := by show _ = _; unfold evP2; rw [Y1.out]; rfl
        have hp1n : ¬ (p1 : Int) < 0 := by omega
        clear hp1 hp1a hp1b q1
        by_cases q2 : blankAt s.data.toList (numAt s.data.toList p1).2 < 0
        · have HP : Hid (isEv s.data.toList = false) := by show _ = _; simp [isEv, Z2.out, q2]
          obtain ⟨m2, HM2⟩ := hex (blankAt s.data.toList (numAt s.data.toList p1).2)
          have X2 : Hid (blankAt s.data.toList (numAt s.data.toList p1).2 = m2) := HM2.out.symm
          rw [X2.out] at q2
          go_enter Tryz.func88, Tryz.ntmps88
          go_wp2_with (first | (go_at_call 99; refine (number_at s _ _ hs (by omega) (by omega)).mono ?_; rintro e w' ⟨rfl, rfl⟩; simp only [tn2, Int.toNat_natCast])  | (go_at_call 100; refine (blank_any s _ _ hs).mono ?_; rintro e w' ⟨rfl, rfl⟩; first | rw [X1.out] | rw [X2.out]))
          refine bodyPost_ret (v := .tuple #[Ev.agg ⟨0, (numAt s.data.toList 2).1, (numAt s.data.toList p1).1, 0, 0⟩, .bool false]) (by simp [results, Tryz.results88, go_sem, Ev.agg]) rfl ⟨⟨0, (numAt s.data.toList 2).1, (numAt s.data.toList p1).1, 0, 0⟩, by rw [HP.out], fun h => absurd h (by rw [HP.out]; simp), hfin _ _⟩
        · obtain ⟨hp2a, hp2b⟩ := blankAt_le _ _ q2
          obtain ⟨p2, hp2⟩ := Int.eq_ofNat_of_zero_le hp2a
          have X2 : Hid (blankAt s.data.toList (numAt s.data.toList p1).2 = (p2 : Int)) := hp2
          have hp2c : p2 ≤ s.size := by rw [hp2] at hp2b; omega
          have Y2 : Hid (evP2 s.data.toList = (p2 : Int)) := Z2.out.trans hp2
          have hp2n : ¬ (p2 : Int) < 0 := by omega
          clear hp2 hp2a hp2b q2 Z2
          by_cases q3 : s.size ≤ p2
          · have HP : Hid (isEv s.data.toList = false) := by show _ = _; simp [isEv, Y2.out]; omega
            have q3' : (s.size : Int) ≤ (p2 : Int) := by omega
            go_enter Tryz.func88, Tryz.ntmps88
            go_wp2_with (first | (go_at_call 99; refine (number_at s _ _ hs (by omega) (by omega)).mono ?_; rintro e w' ⟨rfl, rfl⟩; simp only [tn2, Int.toNat_natCast])  | (go_at_call 100; refine (blank_any s _ _ hs).mono ?_; rintro e w' ⟨rfl, rfl⟩; first | rw [X1.out] | rw [X2.out]))
            refine bodyPost_ret (v := .tuple #[Ev.agg ⟨0, (numAt s.data.toList 2).1, (numAt s.data.toList p1).1, 0, 0⟩, .bool false]) (by simp [results, Tryz.results88, go_sem, Ev.agg]) rfl ⟨⟨0, (numAt s.data.toList 2).1, (numAt s.data.toList p1).1, 0, 0⟩, by rw [HP.out], fun h => absurd h (by rw [HP.out]; simp), hfin _ _⟩
          · have q3' : ¬ (s.size : Int) ≤ (p2 : Int) := by omega
            have hlt : p2 < s.size := by omega
            have hlt' : (p2 : Int) < (s.size : Int) := by omega
            have h0' : (0 : Int) ≤ (p2 : Int) := by omega
            have HBy : Hid (byteAt s.data.toList (evP2 s.data.toList).toNat = (s[p2].toNat : Int)) := by show _ = _; rw [Y2.out, Int.toNat_natCast]; exact byteAt_lt s p2 hlt
            by_cases q4 : (s[p2].toNat : Int) < 65
            · have HP : Hid (isEv s.data.toList = false) := by show _ = _; simp only [isEv, HBy.out]; simp [q4]
              go_enter Tryz.func88, Tryz.ntmps88
              go_wp2_with (first | (go_at_call 99; refine (number_at s _ _ hs (by omega) (by omega)).mono ?_; rintro e w' ⟨rfl, rfl⟩; simp only [tn2, Int.toNat_natCast])  | (go_at_call 100; refine (blank_any s _ _ hs).mono ?_; rintro e w' ⟨rfl, rfl⟩; first | rw [X1.out] | rw [X2.out]))
              refine bodyPost_ret (v := .tuple #[Ev.agg ⟨0, (numAt s.data.toList 2).1, (numAt s.data.toList p1).1, 0, 0⟩, .bool false]) (by simp [results, Tryz.results88, go_sem, Ev.agg]) rfl ⟨⟨0, (numAt s.data.toList 2).1, (numAt s.data.toList p1).1, 0, 0⟩, by rw [HP.out], fun h => absurd h (by rw [HP.out]; simp), hfin _ _⟩
            · by_cases q5 : 90 < (s[p2].toNat : Int)
              · have HP : Hid (isEv s.data.toList = false) := by show _ = _; simp only [isEv, HBy.out]; simp [q5]
                have hd4 : decide ((s[p2].toNat : Int) < 65) = false := by simpa using q4
                go_enter Tryz.func88, Tryz.ntmps88
                go_wp2_with (first | (go_at_call 99; refine (number_at s _ _ hs (by omega) (by omega)).mono ?_; rintro e w' ⟨rfl, rfl⟩; simp only [tn2, Int.toNat_natCast])  | (go_at_call 100; refine (blank_any s _ _ hs).mono ?_; rintro e w' ⟨rfl, rfl⟩; first | rw [X1.out] | rw [X2.out]))
                refine bodyPost_ret (v := .tuple #[Ev.agg ⟨0, (numAt s.data.toList 2).1, (numAt s.data.toList p1).1, 0, 0⟩, .bool false]) (by simp [results, Tryz.results88, go_sem, Ev.agg]) rfl ⟨⟨0, (numAt s.data.toList 2).1, (numAt s.data.toList p1).1, 0, 0⟩, by rw [HP.out], fun h => absurd h (by rw [HP.out]; simp), hfin _ _⟩
              · have hw1 : IntKind.i64.wrap (s[p2].toNat : Int) = (s[p2].toNat : Int) := wrapB _
                have Z3 : Hid (evP3 s.data.toList = blankAt s.data.toList ((p2 : Int) + 1)) := by show _ = _; unfold evP3; rw [Y2.out]
                by_cases q6 : blankAt s.data.toList ((p2 : Int) + 1) < 0
                · have HP : Hid (isEv s.data.toList = false) := by show _ = _; simp [isEv, Z3.out, q6]
                  obtain ⟨m3, HM3⟩ := hex (blankAt s.data.toList ((p2 : Int) + 1))
                  have X3 : Hid (blankAt s.data.toList ((p2 : Int) + 1) = m3) := HM3.out.symm
                  rw [X3.out] at q6
                  go_enter Tryz.func88, Tryz.ntmps88
                  go_wp2_with (first | (go_at_call 99; refine (number_at s _ _ hs (by omega) (by omega)).mono ?_; rintro e w' ⟨rfl, rfl⟩; simp only [tn2, Int.toNat_natCast])  | (go_at_call 100; refine (blank_any s _ _ hs).mono ?_; rintro e w' ⟨rfl, rfl⟩; first | rw [X1.out] | rw [X2.out] | rw [X3.out]))
                  refine bodyPost_ret (v := .tuple #[Ev.agg ⟨0, (numAt s.data.toList 2).1, (numAt s.data.toList p1).1, (s[p2].toNat : Int), 0⟩, .bool false]) (by simp [results, Tryz.results88, go_sem, Ev.agg]) rfl ⟨⟨0, (numAt s.data.toList 2).1, (numAt s.data.toList p1).1, (s[p2].toNat : Int), 0⟩, by rw [HP.out], fun h => absurd h (by rw [HP.out]; simp), hfin _ _⟩
                · obtain ⟨hp3a, hp3b⟩ := blankAt_le _ _ q6
                  obtain ⟨p3, hp3⟩ := Int.eq_ofNat_of_zero_le hp3a
                  have X3 : Hid (blankAt s.data.toList ((p2 : Int) + 1) = (p3 : Int)) := hp3
                  have hp3c : p3 ≤ s.size := by rw [hp3] at hp3b; omega
                  have Y3 : Hid (evP3 s.data.toList = (p3 : Int)) := Z3.out.trans hp3
                  have hp3n : ¬ (p3 : Int) < 0 := by omega
                  clear hp3 hp3a hp3b q6 Z3
                  have HI : Hid (isEv s.data.toList = decide ((numAt s.data.toList p3).2 = (s.size : Int))) := by
                    show _ = _
                    have hb2 := byteAt_lt s p2 hlt
                    simp only [isEv, Y1.out, Y2.out, Y3.out, HH.out, Int.toNat_natCast, hlen, hb2]
                    have a1 : decide ((s[p2].toNat : Int) < 65) = false := by simpa using q4
                    have a2 : decide (90 < (s[p2].toNat : Int)) = false := by simpa using q5
                    have a3 : decide ((s.size : Int) ≤ (p2 : Int)) = false := by simpa using hlt
                    rw [a1, a2, a3]
                    simp
                  have HE : Hid (evOf s.data.toList = ⟨0, (numAt s.data.toList 2).1, (numAt s.data.toList p1).1, (s[p2].toNat : Int), (numAt s.data.toList p3).1⟩) := by show _ = _; have hb2 := byteAt_lt s p2 hlt; simp only [evOf, Y1.out, Y2.out, Y3.out, Int.toNat_natCast, hb2]
                  go_enter Tryz.func88, Tryz.ntmps88
                  go_wp2_with (first | (go_at_call 99; refine (number_at s _ _ hs (by omega) (by omega)).mono ?_; rintro e w' ⟨rfl, rfl⟩; simp only [tn2, Int.toNat_natCast])   | (go_at_call 100; refine (blank_any s _ _ hs).mono ?_; rintro e w' ⟨rfl, rfl⟩; first | rw [X1.out] | rw [X2.out] | rw [X3.out]))
                  refine bodyPost_ret (v := .tuple #[Ev.agg ⟨0, (numAt s.data.toList 2).1, (numAt s.data.toList p1).1, (s[p2].toNat : Int), (numAt s.data.toList p3).1⟩, .bool ((numAt s.data.toList p3).2 == (s.size : Int))]) (by simp [results, Tryz.results88, go_sem, Ev.agg]) rfl ⟨⟨0, (numAt s.data.toList 2).1, (numAt s.data.toList p1).1, (s[p2].toNat : Int), (numAt s.data.toList p3).1⟩, ?_, fun _ => HE.out.symm, hfin _ _⟩
                  have e3 : ((numAt s.data.toList p3).2 == (s.size : Int)) = decide ((numAt s.data.toList p3).2 = (s.size : Int)) := by by_cases e : (numAt s.data.toList p3).2 = (s.size : Int) <;> simp [e]
                  rw [HI.out, e3]
end Go.Proofs.YtghcololkgeoeabGreat
