import Derived.Test.YtghcololkgeoeabDoorPartB0
namespace Go.Proofs.YtghcololkgeoeabDoor
open Go.RowKit
set_option linter.unusedVariables false
set_option linter.unusedSimpArgs false

theorem ret_pair {a b c d : Int} (h1 : a = b) (h2 : c = d) : Ending.returned (.tuple #[.int .i64 a, .int .i64 c]) = .returned (.tuple #[.int .i64 b, .int .i64 d]) := by rw [h1, h2]
/-- the first k bytes are digits, their number is n -/
def DigN (L : List UInt8) (k : Nat) (n : Int) : Prop := k ≤ L.length ∧ n = numOf 0 (L.take k) ∧ (∀ c ∈ L.take k, isDig c = true) ∧ 0 ≤ n ∧ n < (10 : Int) ^ k
theorem digN_start (L : List UInt8) : DigN L 0 0 := by simp [DigN, numOf]
theorem digN_bd {L : List UInt8} {k : Nat} {n : Int} (h : DigN L k n) (hk : k ≤ 14) : k ≤ L.length ∧ 0 ≤ n ∧ n < 100000000000000 := by
  obtain ⟨h0, _, _, h1, h2⟩ := h
  refine ⟨h0, h1, Int.lt_of_lt_of_le h2 ?_⟩
  have h3 : (10 : Nat) ^ k ≤ 10 ^ 14 := Nat.pow_le_pow_right (by omega) hk
  have h4 : ((10 ^ k : Nat) : Int) ≤ ((10 ^ 14 : Nat) : Int) := by exact_mod_cast h3
  simpa using h4
theorem digN_step {L : List UInt8} {k : Nat} {n : Int} {c : UInt8} (h : DigN L k n) (hc : L[k]? = some c) (h1 : 48 ≤ (c.toNat : Int)) (h2 : (c.toNat : Int) ≤ 57) : DigN L (k + 1) (n * 10 + (c.toNat : Int) - 48) := by
  obtain ⟨a, b, d, e, f⟩ := h
  obtain ⟨hk, hkc⟩ := List.getElem?_eq_some_iff.1 hc
  have ht : L.take (k + 1) = L.take k ++ [c] := by rw [take_succ' L k hk, hkc]
  refine ⟨by omega, ?_, ?_, by omega, ?_⟩
  · rw [ht, numOf_snoc, ← b]; omega
  · rw [ht]
    intro x hx
    rcases List.mem_append.1 hx with hx | hx
    · exact d x hx
    · simp at hx; subst hx; simp only [isDig, decide_eq_true_eq]; omega
  · rw [Int.pow_succ]; omega
/-- how many digits stand at the head (fourteen at most) -/
def digLen (L : List UInt8) : Nat := min 14 (L.takeWhile isDig).length
theorem digN_end {L : List UInt8} {k : Nat} {n : Int} (h : DigN L k n) (hk : k ≤ 14) (he : k = 14 ∨ L[k]? = none ∨ ∃ c, L[k]? = some c ∧ isDig c = false) : k = digLen L := by
  obtain ⟨a, _, d, _, _⟩ := h
  have h1 : k ≤ (L.takeWhile isDig).length := by
    have : L = L.take k ++ L.drop k := (List.take_append_drop k L).symm
    rw [this, List.takeWhile_append_of_pos d]
    simp [Nat.min_eq_left a]
  unfold digLen
  rcases he with he | he | ⟨c, hc, hd⟩
  · omega
  · have h2 : L.length ≤ k := by rw [List.getElem?_eq_none_iff] at he; exact he
    have h3 : (L.takeWhile isDig).length ≤ L.length := (List.takeWhile_prefix isDig).length_le
    omega
  · have h2 : (L.takeWhile isDig).length ≤ k := by
      have hk' : k < L.length := (List.getElem?_eq_some_iff.1 hc).1
      have e : L = L.take k ++ c :: L.drop (k + 1) := by
        have h5 : L.drop k = c :: L.drop (k + 1) := by rw [List.drop_eq_getElem_cons hk', (List.getElem?_eq_some_iff.1 hc).2]
        rw [← h5, List.take_append_drop]
      rw [e, List.takeWhile_append_of_pos d]
      simp [hd, Nat.min_eq_left a]
    omega
/-- number: what stands at a place, and where it ends (-1: it is none) -/
def numAt (l : List UInt8) (i : Nat) : Int × Int :=
  let neg := decide (i < l.length) && decide (byteAt l i = 45)
  let j := if neg then i + 1 else i
  let k := digLen (l.drop j)
  if k < 1 ∨ 13 < k then (0, -1) else (if neg then -(numOf 0 ((l.drop j).take k)) else numOf 0 ((l.drop j).take k), (j : Int) + k)

/-- blank: behind the blank at a place; -1: there is none -/
def blankAt (l : List UInt8) (i : Int) : Int := if i < 0 ∨ (l.length : Int) ≤ i ∨ byteAt l i.toNat ≠ 32 then -1 else i + 1
end Go.Proofs.YtghcololkgeoeabDoor
namespace Go.Proofs.YtghcololkgeoeabDoor
open Go.RowKit
set_option linter.unusedVariables false
set_option linter.unusedSimpArgs false

theorem head2 (s : ByteArray) : (s.extract 0 2).toList = s.data.toList.take 2 := by rw [Lib.extract_toList]; simp
theorem ret_ib {a b : Int} {c d : Bool} (h1 : a = b) (h2 : c = d) : Ending.returned (.tuple #[.int .i64 a, .bool c]) = .returned (.tuple #[.int .i64 b, .bool d]) := by rw [h1, h2]
/-- a line P: its time, and is it one? -/
def punctOf (l : List UInt8) : Int × Bool := if (l.take 2 == [80, 32]) then ((numAt l 2).1, decide ((numAt l 2).2 = (l.length : Int))) else (0, false)
theorem take2_len {l : List UInt8} {a b : UInt8} (h : (l.take 2 == [a, b]) = true) : 2 ≤ l.length := by
  have e := congrArg List.length (eq_of_beq h)
  simp at e; omega
end Go.Proofs.YtghcololkgeoeabDoor
namespace Go.Proofs.YtghcololkgeoeabDoor
open Go.RowKit
set_option linter.unusedVariables false
set_option linter.unusedSimpArgs false

/-- the places of a line E: behind the blank that follows SEQ, that follows TS, that follows KIND -/
def evP1 (l : List UInt8) : Int := blankAt l (numAt l 2).2
def evP2 (l : List UInt8) : Int := blankAt l (numAt l (evP1 l).toNat).2
def evP3 (l : List UInt8) : Int := blankAt l (evP2 l + 1)
/-- is a line one of the form E? -/
def isEv (l : List UInt8) : Bool := (l.take 2 == [69, 32]) && !decide (evP1 l < 0) && !decide (evP2 l < 0) && !decide ((l.length : Int) ≤ evP2 l) && !decide (byteAt l (evP2 l).toNat < 65) && !decide (90 < byteAt l (evP2 l).toNat) && !decide (evP3 l < 0) && decide ((numAt l (evP3 l).toNat).2 = (l.length : Int))
def evOf (l : List UInt8) : Ev := ⟨0, (numAt l 2).1, (numAt l (evP1 l).toNat).1, byteAt l (evP2 l).toNat, (numAt l (evP3 l).toNat).1⟩
theorem blankAt_le (l : List UInt8) (i : Int) (h : ¬ blankAt l i < 0) : 0 ≤ blankAt l i ∧ blankAt l i ≤ l.length := by
  unfold blankAt at *
  split at h
  · omega
  · rename_i hn
    rw [if_neg hn]
    omega
def EvIs (l : List UInt8) (w : World) (e : Ending) (w' : World) : Prop := ∃ E : Ev, e = .returned (.tuple #[E.agg, .bool (isEv l)]) ∧ (isEv l = true → E = evOf l) ∧ Below w.heap.size w w'
theorem numAt_bd (l : List UInt8) (i : Nat) (hl : l.length ≤ 100) (hi : i ≤ l.length) : -1 ≤ (numAt l i).2 ∧ (numAt l i).2 ≤ 200 := by
  unfold numAt
  simp only
  generalize (decide (i < l.length) && decide (byteAt l i = 45)) = ng
  have hk : ∀ j, digLen (List.drop j l) ≤ 14 := fun j => by unfold digLen; omega
  cases ng
  all_goals
    simp only [Bool.false_eq_true, if_false, if_true]
    split
    · simp
    · rename_i h
      have := hk i
      have := hk (i + 1)
      simp only
      omega

theorem tn2 : (2 : Int).toNat = 2 := rfl
end Go.Proofs.YtghcololkgeoeabDoor
