import Derived.Test.YthiabdpgieppoaaGreatRefM
import Derived.Deep.QuietTactic
import Derived.BigQuiet
namespace Go.Proofs.YthiabdpgieppoaaGreat
open Go.RowKit
set_option linter.unusedVariables false
set_option linter.unusedSimpArgs false

theorem ret_int {k : IntKind} {a b : Int} (h : a = b) : Ending.returned (.int k a) = .returned (.int k b) := by rw [h]
theorem ret_bool {a b : Bool} (h : a = b) : Ending.returned (.bool a) = .returned (.bool b) := by rw [h]
def greatest (l : List Int) (n : Int) : Int := l.foldl (fun m x => if m < x then x else m) n
theorem greatest_snoc (l : List Int) (n x : Int) : greatest (l ++ [x]) n = if greatest l n < x then x else greatest l n := by unfold greatest; rw [List.foldl_append]; rfl
theorem ints_get (l : List Int) (j : Nat) (h : j < l.length) : (ints l)[j]? = some (.int .i64 l[j]) := by simp [ints, List.getElem?_eq_getElem h]
theorem take_succ' {α : Type} (l : List α) (j : Nat) (h : j < l.length) : l.take (j + 1) = l.take j ++ [l[j]] := List.take_succ_eq_append_getElem h

set_option maxHeartbeats 400000 in
theorem greatest_any (l : List Int) (a : Option Addr) (c : Nat) (n : Int) (w : World) (hr : Row w 3 1 a l.length c (ints l)) :
    Calls Tryz.prog 78 #[.slice a l.length c, .int .i64 n] w fun e w' => e = .returned (.int .i64 (greatest l n)) ∧ w = w' := by
  have hlen := hr.len
  unfold maxLen at hlen
  go_enter Tryz.func78, Tryz.ntmps78
  go_wp2
  go_loop [1, 5] (fun m i => ∃ k : Nat, k ≤ l.length ∧ i = .int .i64 k ∧ m = .int .i64 (greatest (l.take k) n)) (fun _ i => l.length - (intOf i).toNat)
  case atStart => exact ⟨0, Nat.zero_le _, rfl, by simp [greatest]⟩
  case round =>
    obtain ⟨k, hk, rfl, rfl⟩ := hrel
    by_cases hlt : k < l.length
    · obtain ⟨g, rfl, hnc, hcm, hcell, _⟩ := hr.form (by omega)
      have hc := hcell k (by omega)
      rw [ints_get l k hlt] at hc
      have hlt' : (k : Int) < (l.length : Int) := by omega
      have hk0 : (0 : Int) ≤ (k : Int) := by omega
      have HT : Hid (greatest (l.take (k + 1)) n = if greatest (l.take k) n < l[k] then l[k] else greatest (l.take k) n) := by show _ = _; rw [take_succ' l k hlt, greatest_snoc]
      clear hcell hr
      by_cases hx : greatest (l.take k) n < l[k]
      · go_wp2
        go_round
        case rel => exact ⟨k + 1, by omega, by go_num, by rw [HT.out, if_pos hx]⟩
        case measure => simp [intOf]; omega
      · go_wp2
        go_round
        case rel => exact ⟨k + 1, by omega, by go_num, by rw [HT.out, if_neg hx]⟩
        case measure => simp [intOf]; omega
    · go_wp2
      go_ret
      exact ⟨ret_int (by rw [List.take_of_length_le (by omega)]), rfl⟩

def Ref.mark (R : Ref) (i : Nat) : Int := greatest ((R.srcs[i]?.map (·.marks)).getD []) (-2199023255552)
theorem MemR.cells {w : World} {b : Nat} {R : Ref} (h : MemR w b R) : w.cell? ⟨b, 4, none⟩ = some (.int .i64 R.c.idle) ∧ w.cell? ⟨b, 9, none⟩ = some (.slice (some ⟨R.sg, 0, none⟩) R.srcs.length R.sc) ∧ w.cell? ⟨b, 10, none⟩ = some (.slice R.aa R.all.length R.ac) ∧ w.cell? ⟨b, 11, none⟩ = some (.slice R.da R.aside.length R.dc) ∧ w.cell? ⟨b, 12, none⟩ = some (.int .i64 R.merged) :=
  ⟨h.eng.cell 4, h.eng.cell 9, h.eng.cell 10, h.eng.cell 11, h.eng.cell 12⟩
theorem MemR.srcCap {w : World} {b : Nat} {R : Ref} (h : MemR w b R) : R.srcs.length ≤ maxLen := h.src.len

set_option maxHeartbeats 400000 in
theorem rmark_any (b : Nat) (R : Ref) (i : Nat) (w : World) (h : MemR w b R) (hi : i < R.srcs.length) :
    Calls Tryz.prog 50 #[.pointer (some ⟨b, 0, none⟩), .int .i64 i] w fun e w' => e = .returned (.int .i64 (R.mark i)) ∧ w = w' := by
  obtain ⟨_, c9, _⟩ := h.cells
  have s2 := h.srcCell i 2 hi (by omega)
  simp only [RSrc.vals, List.getElem?_cons_succ, List.getElem?_cons_zero] at s2
  have hm := h.mrk i _ (List.getElem?_eq_getElem hi)
  have hi' : (i : Int) < (R.srcs.length : Int) := by omega
  have hi0 : (0 : Int) ≤ (i : Int) := by omega
  have e : R.mark i = greatest R.srcs[i].marks (-2199023255552) := by simp [Ref.mark, List.getElem?_eq_getElem hi]
  rw [e]
  go_enter Tryz.func50, Tryz.ntmps50
  go_wp2_with (go_at_call 78; refine (greatest_any _ _ _ _ _ hm).mono ?_; rintro e w' ⟨rfl, rfl⟩)
  go_ret
  exact ⟨rfl, rfl⟩

def Ref.isIdle (R : Ref) (i : Nat) : Bool := match R.srcs[i]? with | some r => r.inn && decide (0 < R.c.idle) && decide (R.c.idle ≤ r.sil) | none => false
set_option maxHeartbeats 800000 in
theorem ridle_any (b : Nat) (R : Ref) (i : Nat) (w : World) (h : MemR w b R) (hi : i < R.srcs.length) :
    Calls Tryz.prog 51 #[.pointer (some ⟨b, 0, none⟩), .int .i64 i] w fun e w' => e = .returned (.bool (R.isIdle i)) ∧ ∃ n, w' = w.drewN n := by
  obtain ⟨c4, c9, _⟩ := h.cells
  have s0 := h.srcCell i 0 hi (by omega)
  have s1 := h.srcCell i 1 hi (by omega)
  simp only [RSrc.vals, List.getElem?_cons_succ, List.getElem?_cons_zero, Nat.add_zero] at s0 s1
  have hi' : (i : Int) < (R.srcs.length : Int) := by omega
  have hi0 : (0 : Int) ≤ (i : Int) := by omega
  have e : R.isIdle i = (R.srcs[i].inn && decide (0 < R.c.idle) && decide (R.c.idle ≤ R.srcs[i].sil)) := by simp [Ref.isIdle, List.getElem?_eq_getElem hi]
  rw [e]
  cases hin : R.srcs[i].inn with
  | false =>
    rw [hin] at s0
    go_enter Tryz.func51, Tryz.ntmps51
    go_wp2
    go_quiet (fail)
    go_wp2
    go_ret
    exact ⟨rfl, _, rfl⟩
  | true =>
    rw [hin] at s0
    by_cases h0 : 0 < R.c.idle
    · by_cases h1 : R.c.idle ≤ R.srcs[i].sil
      · go_enter Tryz.func51, Tryz.ntmps51
        go_wp2
        go_quiet (fail)
        go_wp2
        go_ret
        exact ⟨ret_bool (by simp [h0, h1]), _, rfl⟩
      · go_enter Tryz.func51, Tryz.ntmps51
        go_wp2
        go_quiet (fail)
        go_wp2
        go_ret
        exact ⟨ret_bool (by simp [h0, h1]), _, rfl⟩
    · have hd : decide (0 < R.c.idle) = false := by simpa using h0
      go_enter Tryz.func51, Tryz.ntmps51
      go_wp2
      go_quiet (fail)
      go_wp2
      go_ret
      exact ⟨ret_bool (by rw [hd]; rfl), _, rfl⟩
end Go.Proofs.YthiabdpgieppoaaGreat
