import Derived.Test.YthiabdpgieppoaaGreatRefL
namespace Go.Proofs.YthiabdpgieppoaaGreat
open Go.RowKit
set_option linter.unusedVariables false
set_option linter.unusedSimpArgs false
attribute [local go_sem ↓] Go.wp_at_zero Go.wp_at_succ

theorem drewN2 (w : World) (n m : Nat) : (w.drewN n).drewN m = w.drewN (n + m) := by simp [World.drewN, Nat.add_assoc]
set_option maxRecDepth 100000 in
set_option maxHeartbeats 2000000 in
theorem sameEvents_eq (l : List Ev) (a a' : Option Addr) (c c' : Nat) (w : World) (h : Row w 32 5 a l.length c (evs l)) (h' : Row w 32 5 a' l.length c' (evs l)) (hl : l.length ≤ 100000) :
    Calls Tryz.prog 65 #[.slice a l.length c, .slice a' l.length c'] w fun e w' => e = .returned (.bool true) ∧ ∃ n, w' = w.drewN n := by
  have HR : Hid (Row w 32 5 a l.length c (evs l)) := h
  have HR' : Hid (Row w 32 5 a' l.length c' (evs l)) := h'
  clear h h'
  go_enter Tryz.func65, Tryz.ntmps65
  go_wp2
  go_loopw [5] (fun i wr => ∃ (k n : Nat), k ≤ l.length ∧ i = .int .i64 k ∧ wr = w.drewN n) (fun i _ => l.length - (intOf i).toNat)
  case atStart => exact ⟨0, 0, Nat.zero_le _, rfl, rfl⟩
  case round =>
    obtain ⟨k, n, hk, rfl, hwr⟩ := hrel
    have HRr : Hid (Row wr 32 5 a l.length c (evs l)) := by show Row _ _ _ _ _ _ _; rw [hwr]; exact HR.out
    have HRr' : Hid (Row wr 32 5 a' l.length c' (evs l)) := by show Row _ _ _ _ _ _ _; rw [hwr]; exact HR'.out
    have HW : Hid (wr = w.drewN n) := hwr
    clear hwr
    by_cases hlt : k < l.length
    · have hlt' : (k : Int) < (l.length : Int) := by omega
      have hk0 : (0 : Int) ≤ (k : Int) := by omega
      obtain ⟨g, hg, _, x0, x1, x2, x3, x4⟩ := evRow_cells HRr.out k hlt
      obtain ⟨g', hg', _, y0, y1, y2, y3, y4⟩ := evRow_cells HRr'.out k hlt
      obtain ⟨E, HE⟩ := hex l[k]
      rw [← HE.out] at x0 x1 x2 x3 x4 y0 y1 y2 y3 y4
      subst hg
      subst hg'
      go_wp2
      go_quiet (fail)
      go_wp2
      go_roundw
      case rel => exact ⟨k + 1, n + _, by omega, by go_num, by rw [HW.out, drewN2]⟩
      case measure => simp [intOf]; omega
    · go_wp2
      go_ret
      exact ⟨rfl, n, HW.out⟩

set_option maxHeartbeats 400000 in
theorem markN_any (i : Int) (w : World) (h0 : 0 ≤ i) (h1 : i ≤ 9000000000000000) : Calls Tryz.prog 30 #[.int .i64 i] w fun e w' => e = .returned (.int .i64 (-7000 - i)) ∧ w = w' := by
  go_enter Tryz.func30, Tryz.ntmps30
  go_wp2
  go_ret
  exact ⟨rfl, rfl⟩
/-- the mark of list number i -/
def markEv (i : Int) : Ev := ⟨-7000 - i, -7000 - i, -7000 - i, -7000 - i, -7000 - i⟩
set_option maxHeartbeats 400000 in
theorem marked_any (i : Int) (w : World) (h0 : 0 ≤ i) (h1 : i ≤ 9000000000000000) : Calls Tryz.prog 28 #[.int .i64 i] w fun e w' => e = .returned (markEv i).agg ∧ Below w.heap.size w w' ∧ w'.heap.size = w.heap.size + 1 := by
  go_enter Tryz.func28, Tryz.ntmps28
  go_wp2_with (go_at_call 30; refine (markN_any _ _ h0 h1).mono ?_; rintro e w' ⟨rfl, rfl⟩)
  refine bodyPost_ret (v := (markEv i).agg) (by simp [results, Tryz.results28, go_sem, markEv, Ev.agg]) rfl ⟨rfl, (Below.refl _ _).alloc (Nat.le_refl _) _, by simp⟩
end Go.Proofs.YthiabdpgieppoaaGreat
