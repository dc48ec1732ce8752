import Derived.Test.YtghcololkgeoeaaPatC
import Derived.Deep.RegionHeld3
import Derived.Deep.RegionLaw
import Derived.Deep.AppendLies
import Derived.Deep.CutBlock
import Derived.Deep.DeepCutAuto
import Derived.Deep.DrawnRows
import Derived.Lib.IndexBytes
namespace Go.Proofs.Ytghcololkgeoeaa
open Go.RowKit
open Classical
set_option linter.unusedVariables false
set_option linter.unusedSimpArgs false
attribute [local go_sem ↓] Go.wp_at_zero Go.wp_at_succ

theorem capAt_lt {s : ByteArray} {i : Nat} (h : i < s.size) : capAt s.data.toList i = decide (65 ≤ (s[i].toNat : Int) ∧ (s[i].toNat : Int) ≤ 90) := by
  have e : s.data.toList[i]? = some s[i] := by
    rw [List.getElem?_eq_getElem (by simpa using h)]; rfl
  unfold capAt; rw [e]; show capC _ = _; rw [Bool.eq_iff_iff, capC_iff]; simp
theorem capAt_ge {s : ByteArray} {i : Nat} (h : ¬ i < s.size) : capAt s.data.toList i = false := by
  have e : s.data.toList[i]? = none := by rw [List.getElem?_eq_none (by simpa using h)]
  unfold capAt; rw [e]
set_option maxHeartbeats 400000 in
theorem capital_any (s : ByteArray) (i : Nat) (w : World) (hs : s.size ≤ 1000) (hi : i ≤ 2000) :
    Calls Try.prog 26 #[.string s, .int .i64 i] w fun e w' => e = .returned (.bool (capAt s.data.toList i)) ∧ w = w' := by
  by_cases h : i < s.size
  · by_cases h1 : 65 ≤ (s[i].toNat : Int)
    all_goals by_cases h2 : (s[i].toNat : Int) ≤ 90
    all_goals
      rw [capAt_lt h]
      go_enter Try.func26, Try.ntmps26
      go_wp2
      go_ret
      exact ⟨by simp [h1, h2], rfl⟩
  · rw [capAt_ge h]
    go_enter Try.func26, Try.ntmps26
    go_wp2
    go_ret
    exact ⟨rfl, rfl⟩

theorem capital_at (s : ByteArray) (j : Int) (w : World) (hs : s.size ≤ 1000) (h0 : 0 ≤ j) (hi : j ≤ 2000) :
    Calls Try.prog 26 #[.string s, .int .i64 j] w fun e w' => e = .returned (.bool (capAt s.data.toList j.toNat)) ∧ w = w' := by
  obtain ⟨i, rfl⟩ := Int.eq_ofNat_of_zero_le h0
  exact capital_any s i w hs (by omega)

theorem Try.infoStep : (Try.prog.info? 78).map (fun i => (i.zero, i.size, i.bytes)) = some (some (.agg #[.int .i64 0, .int .i64 0]), 2, 16) := by kernel_rfl

/-- the world while the steps are read: the result's block, the pattern's, the steps -/
structure WRel (w wr : World) (ac : List (Int × Int)) (a : Option Addr) (c : Nat) (one : Bool) (win : Int) : Prop where
  res : Blk wr w.heap.size 42 z3
  pat : Blk wr (w.heap.size + 1) 42 [.slice a ac.length c, .bool one, .int .i64 win]
  own : wr.ownsRow (w.heap.size + 2) 78 2 (.slice a ac.length c) ac.length (flat ac)
  below : Below w.heap.size w wr

theorem WRel.size {w wr : World} {ac : List (Int × Int)} {a : Option Addr} {c : Nat} {one : Bool} {win : Int} (h : WRel w wr ac a c one win) : w.heap.size + 2 ≤ wr.heap.size := by
  have := h.pat.lt; omega
theorem WRel.app {w wr w1 : World} {ac : List (Int × Int)} {a : Option Addr} {c g cap : Nat} {x y : Int} (h : WRel w wr ac a c false 0) {o : Obj}
    (hown : w1.ownsRow (w.heap.size + 2) 78 2 (.slice (some ⟨g, 0, none⟩) (ac.length + 1) cap) (ac.length + 1) (flat ac ++ [.int .i64 x, .int .i64 y]))
    (hg : (wr.alloc o).drew.grownBy w1 (Value.slice a ac.length c).ownBlock) :
    WRel w (w1.setCell ⟨w.heap.size + 1, 0, none⟩ (.slice (some ⟨g, 0, none⟩) (ac.length + 1) cap)) (ac ++ [(x, y)]) (some ⟨g, 0, none⟩) cap false 0 := by
  have hlt := h.own.lt
  have hs := h.size
  have hz : wr.heap.size + 1 = (wr.alloc o).heap.size := by simp
  have n0 : (Value.slice a ac.length c).ownBlock ≠ some w.heap.size := fun e => by have := hlt _ e; omega
  have n1 : (Value.slice a ac.length c).ownBlock ≠ some (w.heap.size + 1) := fun e => by have := hlt _ e; omega
  refine ⟨?_, ?_, ?_, ?_⟩
  · exact (((h.res.alloc o).drew).grown hg n0).other (by simp) _
  · have := (((h.pat.alloc o).drew).grown hg n1).set 0 (.slice (some ⟨g, 0, none⟩) (ac.length + 1) cap)
    simpa using this
  · rw [flat_snoc, List.length_append]
    exact ownsRow_setCell_below hown (by simp) _
  · have b1 : Below w.heap.size w (wr.alloc o).drew := (h.below.alloc (by omega) o).drew
    exact (b1.grown hg (by show _ ≤ (wr.alloc o).heap.size; omega) (fun k e => by have := hlt k e; omega)).setCell (p := ⟨w.heap.size + 1, 0, none⟩) (by simp) _

theorem wrapB (c : UInt8) : IntKind.i64.wrap (c.toNat : Int) = (c.toNat : Int) := by
  have := c.toNat_lt
  rw [IntKind.wrap_i64]; omega
theorem bS {w : World} {b : Nat} {t : TypeId} {v : Value} {l : List Value} (h : Blk w b t (v :: l)) : w.cell? ⟨b, 0, none⟩ = some v ∧ w.frozen? ⟨b, 0, none⟩ = false := ⟨by rw [h.cell 0]; rfl, h.frozen 0⟩

theorem drop_cons (s : ByteArray) (k : Nat) (h : k < s.size) : s.data.toList.drop k = s[k] :: s.data.toList.drop (k + 1) := by
  rw [List.drop_eq_getElem_cons (by simpa using h)]; rfl
theorem capAt_drop (l : List UInt8) (k j : Nat) : capAt (l.drop k) j = capAt l (k + j) := by unfold capAt; rw [List.getElem?_drop]
theorem byteAt_drop (l : List UInt8) (k j : Nat) : byteAt (l.drop k) j = byteAt l (k + j) := by unfold byteAt; rw [List.getElem?_drop]
theorem byteAt_lt (s : ByteArray) (k : Nat) (h : k < s.size) : byteAt s.data.toList k = (s[k].toNat : Int) := by
  have e : s.data.toList[k]? = some s[k] := by
    rw [List.getElem?_eq_getElem (by simpa using h)]; rfl
  unfold byteAt; rw [e]; rfl
theorem capAt_true_lt {s : ByteArray} {i : Nat} (h : capAt s.data.toList i = true) : i < s.size := by
  by_cases hi : i < s.size
  · exact hi
  · rw [capAt_ge hi] at h; simp at h
theorem steps_cap {s : ByteArray} {ac : List (Int × Int)} {k : Nat} (h : k < s.size) (hc : capAt s.data.toList k = true) :
    stepsOf ac (s.data.toList.drop k) = stepsOf (ac ++ [((s[k].toNat : Int), 0)]) (s.data.toList.drop (k + 1)) := by
  rw [drop_cons s k h, stepsOf_cons, if_pos]
  rw [capAt_lt h] at hc
  rw [capC_iff]; simpa using hc
theorem steps_bar {s : ByteArray} {ac : List (Int × Int)} {k : Nat} (h : k < s.size) (hc : capAt s.data.toList k = false) (h33 : (s[k].toNat : Int) = 33) (h1 : capAt s.data.toList (k + 1) = true) (h2 : capAt s.data.toList (k + 2) = true) (ha : 0 < ac.length) :
    stepsOf ac (s.data.toList.drop k) = stepsOf (ac ++ [(byteAt s.data.toList (k + 2), byteAt s.data.toList (k + 1))]) (s.data.toList.drop (k + 3)) := by
  rw [drop_cons s k h, stepsOf_cons, if_neg, if_pos, byteAt_drop, byteAt_drop, List.drop_drop]
  · exact ⟨by omega, by rw [capAt_drop]; exact h1, by rw [capAt_drop]; exact h2, ha⟩
  · rw [capAt_lt h] at hc
    rw [capC_iff]; simpa using hc
theorem steps_bar' {s : ByteArray} {ac : List (Int × Int)} {k : Nat} (h : k < s.size) (hc : capAt s.data.toList k = false) (hb : (s[k].toNat : Int) = 33 ∧ capAt s.data.toList (k + 1) = true ∧ capAt s.data.toList (k + 2) = true ∧ 0 < ac.length) (l1 : k + 1 < s.size) (l2 : k + 2 < s.size) :
    stepsOf ac (s.data.toList.drop k) = stepsOf (ac ++ [((s[k + 2].toNat : Int), (s[k + 1].toNat : Int))]) (s.data.toList.drop (k + 3)) := by
  rw [steps_bar h hc hb.1 hb.2.1 hb.2.2.1 hb.2.2.2, byteAt_lt s _ l1, byteAt_lt s _ l2]
theorem steps_end {s : ByteArray} {ac : List (Int × Int)} {k : Nat} (h : ¬ k < s.size) : stepsOf ac (s.data.toList.drop k) = (ac, s.data.toList.drop k) := by
  rw [List.drop_eq_nil_of_le (by simpa using h), stepsOf]
theorem steps_stop {s : ByteArray} {ac : List (Int × Int)} {k : Nat} (h : k < s.size) (hc : capAt s.data.toList k = false) (hn : ¬ ((s[k].toNat : Int) = 33 ∧ capAt s.data.toList (k + 1) = true ∧ capAt s.data.toList (k + 2) = true ∧ 0 < ac.length)) :
    stepsOf ac (s.data.toList.drop k) = (ac, s.data.toList.drop k) := by
  rw [drop_cons s k h, stepsOf_cons, if_neg, if_neg]
  · rw [capAt_drop, capAt_drop]
    intro ⟨a, b, c, d⟩
    exact hn ⟨by omega, b, c, d⟩
  · rw [capAt_lt h] at hc
    rw [capC_iff]; simpa using hc


def patSteps (l : List UInt8) : List (Int × Int) := (stepsOf [] l).1
def patOne (l : List UInt8) : Bool := oneOf (stepsOf [] l).2
def patWin (l : List UInt8) : Int := numOf 0 ((restOf (stepsOf [] l).2).drop 1)

/-- what whole answers -/
def WholeIs (l : List UInt8) (w : World) (e : Ending) (w' : World) : Prop :=
  ∃ (a : Option Addr) (n c : Nat) (o : Bool) (win : Int), e = .returned (.tuple #[.agg #[.slice a n c, .bool o, .int .i64 win], .bool (decide (wholeP l))]) ∧ Below w.heap.size w w' ∧
    (wholeP l → w'.ownsRow w.heap.size 78 2 (.slice a n c) n (flat (patSteps l)) ∧ n = (patSteps l).length ∧ o = patOne l ∧ win = patWin l)

theorem bytes_nil {s : ByteArray} (h : s.size = 0) : s.data.toList = [] := List.eq_nil_of_length_eq_zero (by simpa using h)
theorem bytes_cons {s : ByteArray} (h : ¬ s.size = 0) : s.data.toList.isEmpty = false := by
  cases e : s.data.toList with
  | nil =>
    have : s.data.toList.length = s.size := by simp
    rw [e] at this; simp at this; omega
  | cons x l => rfl
theorem WRel.one {w wr : World} {ac : List (Int × Int)} {a : Option Addr} {c : Nat} (h : WRel w wr ac a c false 0) : WRel w (wr.setCell ⟨w.heap.size + 1, 1, none⟩ (.bool true)) ac a c true 0 := by
  refine ⟨h.res.other (by simp) _, ?_, ownsRow_setCell_below h.own (by simp) _, h.below.setCell (p := ⟨w.heap.size + 1, 1, none⟩) (by simp) _⟩
  have := h.pat.set 1 (.bool true)
  simpa using this
theorem WRel.win {w wr : World} {ac : List (Int × Int)} {a : Option Addr} {c : Nat} {o : Bool} {n m : Int} (h : WRel w wr ac a c o n) : WRel w (wr.setCell ⟨w.heap.size + 1, 2, none⟩ (.int .i64 m)) ac a c o m := by
  refine ⟨h.res.other (by simp) _, ?_, ownsRow_setCell_below h.own (by simp) _, h.below.setCell (p := ⟨w.heap.size + 1, 2, none⟩) (by simp) _⟩
  have := h.pat.set 2 (.int .i64 m)
  simpa using this
theorem whole_no {s : ByteArray} {ac : List (Int × Int)} {k : Nat} (he : ¬ s.size = 0) (h : stepsOf [] s.data.toList = (ac, s.data.toList.drop k)) (hn : ¬ (1 ≤ ac.length ∧ ac.length ≤ 3) ∨ ¬ winB (restOf (s.data.toList.drop k))) : ¬ wholeP s.data.toList := by
  unfold wholeP
  rw [h]
  rintro (hh | ⟨a, b, c⟩)
  · have := bytes_cons he; rw [hh] at this; simp at this
  · rcases hn with hn | hn
    · exact hn ⟨a, b⟩
    · exact hn c
theorem whole_yes {s : ByteArray} {ac : List (Int × Int)} {k : Nat} (h : stepsOf [] s.data.toList = (ac, s.data.toList.drop k)) (h1 : 1 ≤ ac.length) (h2 : ac.length ≤ 3) : winB (restOf (s.data.toList.drop k)) → wholeP s.data.toList := by
  intro hw
  unfold wholeP
  rw [h]
  exact Or.inr ⟨h1, h2, hw⟩
/-- the digits of the window so far: places 1 to j - 1 of the text -/
def DigRel (t : ByteArray) (j : Nat) (win : Int) : Prop := win = numOf 0 ((t.data.toList.drop 1).take (j - 1)) ∧ (∀ c ∈ (t.data.toList.drop 1).take (j - 1), isDig c = true) ∧ 0 ≤ win ∧ win < (10 : Int) ^ (j - 1)
theorem digs_start (t : ByteArray) : DigRel t 1 0 := by simp [DigRel, numOf]
theorem numOf_snoc (v : Int) (l : List UInt8) (c : UInt8) : numOf v (l ++ [c]) = 10 * numOf v l + ((c.toNat : Int) - 48) := by simp [numOf]
theorem drop1_take (t : ByteArray) (j : Nat) (h1 : 1 ≤ j) (h : j < t.size) : (t.data.toList.drop 1).take (j + 1 - 1) = (t.data.toList.drop 1).take (j - 1) ++ [t[j]] := by
  obtain ⟨i, rfl⟩ : ∃ i, j = i + 1 := ⟨j - 1, by omega⟩
  rw [Nat.add_sub_cancel, Nat.add_sub_cancel, List.take_succ_eq_append_getElem (by simp; omega), List.getElem_drop]
  congr 2
  simp only [Nat.add_comm 1 i]
  rfl
theorem digs_step {t : ByteArray} {j : Nat} {win : Int} (hd : DigRel t j win) (h1 : 1 ≤ j) (h : j < t.size) (a : 48 ≤ (t[j].toNat : Int)) (b : (t[j].toNat : Int) ≤ 57) : DigRel t (j + 1) (10 * win + ((t[j].toNat : Int) - 48)) := by
  obtain ⟨d1, d2, d3, d4⟩ := hd
  refine ⟨?_, ?_, by omega, ?_⟩
  · rw [drop1_take t j h1 h, numOf_snoc, ← d1]
  · rw [drop1_take t j h1 h]
    intro c hc
    rcases List.mem_append.1 hc with hc | hc
    · exact d2 c hc
    · simp at hc; subst hc; simp only [isDig, decide_eq_true_eq]; omega
  · obtain ⟨i, rfl⟩ : ∃ i, j = i + 1 := ⟨j - 1, by omega⟩
    simp only [Nat.add_sub_cancel, Int.pow_succ] at *
    omega
theorem digs_bd {t : ByteArray} {j : Nat} {win : Int} (hd : DigRel t j win) (h : j ≤ 14) : 0 ≤ win ∧ win < 10000000000000 := by
  obtain ⟨_, _, d3, d4⟩ := hd
  refine ⟨d3, Int.lt_of_lt_of_le d4 ?_⟩
  have : (10 : Int) ^ (j - 1) ≤ 10 ^ 13 := by
    have h2 : (10 : Nat) ^ (j - 1) ≤ 10 ^ 13 := Nat.pow_le_pow_right (by omega) (by omega)
    have h3 : ((10 ^ (j - 1) : Nat) : Int) ≤ ((10 ^ 13 : Nat) : Int) := by exact_mod_cast h2
    simpa using h3
  simpa using this
theorem digs_no {t : ByteArray} {j : Nat} (h1 : 1 ≤ j) (h : j < t.size) (hn : ¬ (48 ≤ (t[j].toNat : Int) ∧ (t[j].toNat : Int) ≤ 57)) : ¬ winB t.data.toList := by
  rintro ⟨_, _, _, hd, _⟩
  have hm : t[j] ∈ t.data.toList.drop 1 := by
    rw [List.mem_drop_iff_getElem]
    exact ⟨j - 1, by simp; omega, by simp only [show 1 + (j - 1) = j by omega]; rfl⟩
  have := hd _ hm
  simp only [isDig, decide_eq_true_eq] at this
  omega
theorem digs_end {t : ByteArray} {win : Int} (hd : DigRel t t.size win) (h2 : 2 ≤ t.size) (h14 : t.size ≤ 14) (h64 : byteAt t.data.toList 0 = 64) : (winB t.data.toList ↔ win ≤ 1099511627776) ∧ win = numOf 0 (t.data.toList.drop 1) := by
  obtain ⟨d1, d2, _, _⟩ := hd
  have e : (t.data.toList.drop 1).take (t.size - 1) = t.data.toList.drop 1 := List.take_of_length_le (by simp)
  rw [e] at d1 d2
  refine ⟨⟨fun h => d1 ▸ h.2.2.2.2, fun h => ⟨by simpa using h2, h64, by simpa using h14, d2, d1 ▸ h⟩⟩, d1⟩
theorem WRel.drew {w wr : World} {ac : List (Int × Int)} {a : Option Addr} {c : Nat} {o : Bool} {n : Int} (h : WRel w wr ac a c o n) : WRel w wr.drew ac a c o n := ⟨h.res, h.pat, h.own, h.below.drew⟩
theorem WRel.owned {w wr w' : World} {ac : List (Int × Int)} {a : Option Addr} {c : Nat} {o : Bool} {n : Int} (h : WRel w wr ac a c o n) (hk : ∀ k, k ≠ w.heap.size → w'.heap[k]? = wr.heap[k]?) : w'.ownsRow w.heap.size 78 2 (.slice a ac.length c) ac.length (flat ac) := by
  obtain ⟨h1, h2⟩ := h.own
  refine ⟨h1, ?_⟩
  rcases h2 with h2 | ⟨g, cap, cur, hv, hg, hh, r⟩
  · exact Or.inl h2
  · exact Or.inr ⟨g, cap, cur, hv, by omega, by rw [hk g (by omega)]; exact hh, r⟩
theorem set3_other (w : World) (b : Nat) (x y z : Value) : ∀ k, k ≠ b → (((w.setCell ⟨b, 0, none⟩ x).setCell ⟨b, 1, none⟩ y).setCell ⟨b, 2, none⟩ z).drew.heap[k]? = w.heap[k]? := fun k hk => by
  show (((w.setCell ⟨b, 0, none⟩ x).setCell ⟨b, 1, none⟩ y).setCell ⟨b, 2, none⟩ z).heap[k]? = _
  rw [Below.heap_setCell _ _ _ _ hk, Below.heap_setCell _ _ _ _ hk, Below.heap_setCell _ _ _ _ hk]
end Go.Proofs.Ytghcololkgeoeaa
