import Derived.Test.YtghcololkgeoeaaPatE
namespace Go.Proofs.Ytghcololkgeoeaa
open Go.RowKit
open Classical
set_option linter.unusedVariables false
set_option linter.unusedSimpArgs false

def wayB : List ByteArray := [⟨#[]⟩, ⟨#[48]⟩, ⟨#[64, 48]⟩, ⟨#[65, 64, 48]⟩, ⟨#[65, 65, 64, 48]⟩]
theorem goesP_iff (l : List UInt8) : goesP l ↔ ∃ j, j < 5 ∧ wholeP (l ++ (ways.getD j [])) := by
  unfold goesP ways
  constructor
  · rintro ⟨x, hx, h⟩
    simp at hx
    rcases hx with rfl | rfl | rfl | rfl | rfl
    · exact ⟨0, by omega, h⟩
    · exact ⟨1, by omega, h⟩
    · exact ⟨2, by omega, h⟩
    · exact ⟨3, by omega, h⟩
    · exact ⟨4, by omega, h⟩
  · rintro ⟨j, hj, h⟩
    have : j = 0 ∨ j = 1 ∨ j = 2 ∨ j = 3 ∨ j = 4 := by omega
    rcases this with rfl | rfl | rfl | rfl | rfl
    all_goals exact ⟨_, by simp, h⟩


theorem append_toList (a b : ByteArray) : (a ++ b).data.toList = a.data.toList ++ b.data.toList := by
  have : (a ++ b).data = a.data ++ b.data := by simp
  rw [this]; simp

def wayV : List Value := wayB.map Value.string
set_option maxRecDepth 100000 in
set_option maxHeartbeats 2000000 in
theorem goes_any (s : ByteArray) (w : World) (hs : s.size ≤ 60) :
    Calls Try.prog 12 #[.string s] w fun e w' => e = .returned (.bool (decide (goesP s.data.toList))) ∧ Below w.heap.size w w' := by
  go_enter Try.func12, Try.ntmps12
  go_wp2
  go_loopw [4] (fun i wr => ∃ j : Nat, i = .int .i64 j ∧ j ≤ 5 ∧ Hid (∀ i, i < j → ¬ wholeP (s.data.toList ++ ways.getD i [])) ∧ Blk wr w.heap.size 9 wayV ∧ Below w.heap.size w wr) (fun i _ => 5 - (intOf i).toNat)
  case atStart => exact ⟨0, rfl, by omega, fun i hi => by omega, blk_alloc _ _ _, (Below.refl _ _).alloc (Nat.le_refl _) _⟩
  case round =>
    obtain ⟨j, rfl, hj, HN, hblk, hbel⟩ := hrel
    have hsz := hblk.lt
    by_cases hlt : j < 5
    · have hcell := hblk.cell j
      have hx : ∃ x : ByteArray, wayV[j]? = some (.string x) ∧ x.data.toList = ways.getD j [] ∧ x.size ≤ 4 := by
        have : j = 0 ∨ j = 1 ∨ j = 2 ∨ j = 3 ∨ j = 4 := by omega
        rcases this with rfl | rfl | rfl | rfl | rfl <;> exact ⟨_, rfl, rfl, by decide⟩
      obtain ⟨x, hx1, hx2, hx3⟩ := hx
      rw [hx1] at hcell
      have HX : Hid ((s ++ x).data.toList = s.data.toList ++ ways.getD j []) := by show _ = _; rw [append_toList, hx2]
      have hxs : (s ++ x).size ≤ 100 := by
        have : (s ++ x).size = s.size + x.size := by simp
        omega
      clear hx1 hx2
      have hlt' : (j : Int) < 5 := by omega
      have hj0 : (0 : Int) ≤ (j : Int) := by omega
      by_cases hw : wholeP (s.data.toList ++ ways.getD j [])
      · have HW : Hid (decide (wholeP (s ++ x).data.toList) = true) := by show _ = _; rw [HX.out]; simpa using hw
        clear hw
        go_wp2_with (go_at_call 11; refine (whole_any _ _ hxs).mono ?_; rintro e w' ⟨a, n, c, o, win, rfl, hb', _⟩; rw [HW.out])
        go_ret
        refine ⟨?_, (hbel.trans (hb'.mono (by omega))).alloc (by have := hb'.size; omega) _⟩
        have hg : goesP s.data.toList := (goesP_iff _).2 ⟨j, hlt, by have := HW.out; rw [HX.out] at this; simpa using this⟩
        simp [hg]
      · have HW : Hid (decide (wholeP (s ++ x).data.toList) = false) := by show _ = _; rw [HX.out]; simpa using hw
        have HN' : Hid (∀ i, i < j + 1 → ¬ wholeP (s.data.toList ++ ways.getD i [])) := fun i hi => by
          by_cases h : i < j
          · exact HN.out i h
          · obtain rfl : i = j := by omega
            exact hw
        clear hw
        go_wp2_with (go_at_call 11; refine (whole_any _ _ hxs).mono ?_; rintro e w' ⟨a, n, c, o, win, rfl, hb', _⟩; rw [HW.out])
        go_roundw
        case rel => exact ⟨j + 1, by go_num, by omega, HN', (hblk.below hb' hblk.lt).alloc _, (hbel.trans (hb'.mono (by omega))).alloc (by have := hb'.size; omega) _⟩
        case measure => simp [intOf]; omega
    · go_wp2
      go_ret
      refine ⟨?_, hbel⟩
      have hg : ¬ goesP s.data.toList := fun h => by
        obtain ⟨i, hi, hw⟩ := (goesP_iff _).1 h
        exact HN.out i (by omega) hw
      simp [hg]

set_option maxHeartbeats 2000000 in
theorem rcheck_any (s : ByteArray) (w : World) (hs : s.size ≤ maxLen) :
    Calls Try.prog 6 #[.string s] w fun e w' => ∃ x y : Int, e = .returned (.tuple #[.int .i64 x, .int .i64 y]) ∧ CheckIs wholeP goesP s.data.toList x y ∧ Below w.heap.size w w' := by
  unfold maxLen at hs
  by_cases h60 : 60 < s.size
  · go_enter Try.func6, Try.ntmps6
    go_wp2
    go_ret2
    exact ⟨9, 0, rfl, Or.inl ⟨by simpa using h60, rfl, rfl⟩, Below.refl _ _⟩
  · by_cases hw : wholeP s.data.toList
    · have HW : Hid (decide (wholeP s.data.toList) = true) := by show _ = _; simpa using hw
      clear hw
      go_enter Try.func6, Try.ntmps6
      go_wp2_with (go_at_call 11; refine (whole_any _ _ (by omega)).mono ?_; rintro e w' ⟨a, n, c, o, win, rfl, hb', _⟩; rw [HW.out])
      go_ret2
      exact ⟨0, 0, rfl, Or.inr (Or.inl ⟨by simpa using h60, by simpa using HW.out, rfl, rfl⟩), hb'.alloc hb'.size _⟩
    · have HW : Hid (decide (wholeP s.data.toList) = false) := by show _ = _; simpa using hw
      clear hw
      go_enter Try.func6, Try.ntmps6
      go_wp2_with (go_at_call 11; refine (whole_any _ _ (by omega)).mono ?_; rintro e w' ⟨a, n, c, o, win, rfl, hb', _⟩; rw [HW.out])
      go_loopw [6] (fun i wr => ∃ j : Nat, i = .int .i64 j ∧ j ≤ s.size ∧ Hid (∀ i, i < j → goesP (s.data.toList.take (i + 1))) ∧ Below w.heap.size w wr) (fun i _ => s.size - (intOf i).toNat)
      case atStart => exact ⟨0, rfl, by omega, fun i hi => by omega, hb'.alloc hb'.size _⟩
      case round =>
        obtain ⟨j, rfl, hj, HN, hbel⟩ := hrel
        by_cases hlt : j < s.size
        · have hlt' : (j : Int) < (s.size : Int) := by omega
          have HX : Hid ((s.extract 0 (j + 1)).data.toList = s.data.toList.take (j + 1)) := by show _ = _; rw [Lib.extract_data]; simp
          have hxs : (s.extract 0 (j + 1)).size ≤ 60 := by simp; omega
          by_cases hg : goesP (s.data.toList.take (j + 1))
          · have HG : Hid (decide (goesP (s.extract 0 (j + 1)).data.toList) = true) := by show _ = _; rw [decide_eq_true_eq, HX.out]; exact hg
            have HN' : Hid (∀ i, i < j + 1 → goesP (s.data.toList.take (i + 1))) := fun i hi => by
              by_cases h : i < j
              · exact HN.out i h
              · obtain rfl : i = j := by omega
                exact hg
            clear hg
            go_wp2_with (go_at_call 12; refine (goes_any _ _ hxs).mono ?_; rintro e w' ⟨rfl, hb2⟩; rw [HG.out])
            go_roundw
            case rel => exact ⟨j + 1, by go_num, by omega, HN', hbel.trans (hb2.mono hbel.size)⟩
            case measure => simp [intOf]; omega
          · have HG : Hid (decide (goesP (s.extract 0 (j + 1)).data.toList) = false) := by show _ = _; rw [decide_eq_false_iff_not, HX.out]; exact hg
            have HGn : Hid (¬ goesP (s.data.toList.take (j + 1))) := hg
            clear hg
            go_wp2_with (go_at_call 12; refine (goes_any _ _ hxs).mono ?_; rintro e w' ⟨rfl, hb2⟩; rw [HG.out])
            go_ret2
            exact ⟨2, j, rfl, Or.inr (Or.inr ⟨by simpa using h60, by simpa using HW.out, rfl, j, rfl, by simpa using hj, HN.out, fun _ => HGn.out⟩), hbel.trans (hb2.mono hbel.size)⟩
        · go_wp2
          go_ret2
          obtain rfl : j = s.size := by omega
          exact ⟨2, s.size, rfl, Or.inr (Or.inr ⟨by simpa using h60, by simpa using HW.out, rfl, s.size, rfl, by simp, HN.out, fun h => absurd h (by simp)⟩), hbel⟩

set_option maxHeartbeats 400000 in
theorem num_any (n : Int) (w : World) : Calls Try.prog 7 #[.int .i64 n] w fun e w' => e = .returned (.int .i64 n) ∧ w = w' := by
  go_enter Try.func7, Try.ntmps7
  go_wp2
  go_ret
  exact ⟨rfl, rfl⟩
end Go.Proofs.Ytghcololkgeoeaa
