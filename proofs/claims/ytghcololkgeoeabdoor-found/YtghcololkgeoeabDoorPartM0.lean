import Derived.Test.YtghcololkgeoeabDoorPartK9
import Derived.Test.YtghcololkgeoeabDoorPartK7
namespace Go.Proofs.YtghcololkgeoeabDoor
open Go.RowKit
set_option linter.unusedVariables false
set_option linter.unusedSimpArgs false
attribute [local go_sem ↓] Go.wp_at_zero Go.wp_at_succ

/-! ### what a run counts -/
theorem plus_assoc (f g h : FedN) : (f.plus g).plus h = f.plus (g.plus h) := by unfold FedN.plus; simp only [FedN.mk.injEq]; omega
theorem plus_zero (f : FedN) : f.plus ⟨0, 0, 0⟩ = f := by unfold FedN.plus; simp
theorem stepX_shift {i : Nat} {c : UInt8} {f f' : FedN} {X X' : Eng} (h : StepX i c f X f' X') (g : FedN) : StepX i c (g.plus f) X (g.plus f') X' := by
  obtain ⟨p, hp, h⟩ := h
  refine ⟨p, hp, ?_⟩
  rcases h with ⟨h1, rfl, h2⟩ | ⟨h1, h2, rfl, h3⟩ | ⟨h1, h2, z, q, hq, rfl, h3⟩ | ⟨h1, h2, z, q, hq, rfl, h3⟩
  · exact Or.inl ⟨h1, rfl, h2⟩
  · exact Or.inr (Or.inl ⟨h1, h2, (plus_assoc _ _ _).symm, h3⟩)
  · exact Or.inr (Or.inr (Or.inl ⟨h1, h2, z, q, hq, (plus_assoc _ _ _).symm, h3⟩))
  · exact Or.inr (Or.inr (Or.inr ⟨h1, h2, z, q, hq, (plus_assoc _ _ _).symm, h3⟩))
theorem runs_shift {i : Nat} {l : List UInt8} {f f' : FedN} {X X' : Eng} (h : Runs i l f X f' X') (g : FedN) : Runs i l (g.plus f) X (g.plus f') X' := by
  induction h with
  | nil f X => exact Runs.nil _ _
  | cons h t ih => exact Runs.cons (stepX_shift h g) ih
def tot (f : FedN) : Int := f.good + f.refused + f.bad
def ends (l : List UInt8) : Nat := (l.filter (fun c => c == 10)).length
theorem stepX_cnt {i j : Nat} {c : UInt8} {f f' : FedN} {X X' : Eng} (h : StepX i c f X f' X') (hc : Cnt j f) : Cnt (j + 1) f' ∧ tot f' = tot f + (if c = 10 then 1 else 0) := by
  obtain ⟨p, hp, h⟩ := h
  rcases h with ⟨h1, rfl, h2⟩ | ⟨h1, h2, rfl, h3⟩ | ⟨h1, h2, z, q, hq, rfl, h3⟩ | ⟨h1, h2, z, q, hq, rfl, h3⟩
  · refine ⟨?_, by rw [if_neg h1]; omega⟩
    unfold Cnt at *; omega
  · exact ⟨cnt_bad hc, by rw [if_pos h1]; unfold tot FedN.plus; simp only; omega⟩
  · exact ⟨cnt_plus hc z, by rw [if_pos h1]; unfold tot FedN.plus fedOf; split <;> (simp only; omega)⟩
  · exact ⟨cnt_plus hc z, by rw [if_pos h1]; unfold tot FedN.plus fedOf; split <;> (simp only; omega)⟩
theorem runs_cnt {i : Nat} {l : List UInt8} {f f' : FedN} {X X' : Eng} (h : Runs i l f X f' X') : ∀ {j : Nat}, Cnt j f → Cnt (j + l.length) f' := by
  induction h with
  | nil f X => intro j hc; simpa using hc
  | @cons c l f f1 f2 X X1 X2 h t ih =>
    intro j hc
    have := ih (stepX_cnt h hc).1
    rw [List.length_cons, show j + (l.length + 1) = j + 1 + l.length by omega]
    exact this
theorem runs_ends {i : Nat} {l : List UInt8} {f f' : FedN} {X X' : Eng} (h : Runs i l f X f' X') : ∀ {j : Nat}, Cnt j f → tot f' = tot f + ends l := by
  induction h with
  | nil f X => intro j _; simp [ends]
  | @cons c l f f1 f2 X X1 X2 h t ih =>
    intro j hc
    obtain ⟨h1, h2⟩ := stepX_cnt h hc
    rw [ih h1, h2]
    unfold ends
    rw [List.filter_cons]
    by_cases e : c = 10
    · rw [if_pos e, if_pos (by simp [e])]
      simp only [List.length_cons]
      omega
    · rw [if_neg e, if_neg (by simp [e])]
      omega
theorem runs_len {i : Nat} {l : List UInt8} {f f' : FedN} {X X' : Eng} (h : Runs i l f X f' X') : X'.srcs.length = X.srcs.length := by
  induction h with
  | nil f X => rfl
  | cons h t ih => exact ih.trans (stepX_grow h).n
/-- bytes of another source, without a line end -/
theorem runs_between {i k : Nat} {l : List UInt8} {f f' : FedN} {X Y Y' : Eng} (h : Runs i l f Y f' Y') (hik : i ≠ k) (hn : ∀ c ∈ l, c ≠ 10) (ht : Twin (fun j => j = k) X Y) : Twin (fun j => j = k) X Y' := by
  induction h with
  | nil f X => exact ht
  | @cons c l f f1 f2 Y Y1 Y2 h t ih =>
    refine ih (fun c hc => hn c (by simp [hc])) ?_
    obtain ⟨p, hp, h⟩ := h
    have hc := hn c (by simp)
    rcases h with ⟨_, _, la, lc, rfl⟩ | ⟨e, _⟩ | ⟨e, _⟩ | ⟨e, _⟩
    · obtain ⟨⟨N, R, g1, g2⟩, hln⟩ := ht
      refine ⟨⟨N, R, g1, sim_line g2 hp ⟨rfl, rfl, rfl, rfl, rfl⟩⟩, ?_⟩
      intro j a b hj ha hb
      have hb : (Y.srcs.set i (p.keeps c la lc))[j]? = some b := hb
      rw [List.getElem?_set, if_neg (by rw [hj]; exact hik)] at hb
      exact hln j a b hj ha hb
    · exact absurd e hc
    · exact absurd e hc
    · exact absurd e hc
theorem seg_take (l : List UInt8) (n : Nat) : seg l 0 n = l.take n := by unfold seg; simp
theorem seg_drop {l : List UInt8} {n m : Nat} (h : l.length ≤ m) : seg l n m = l.drop n := by unfold seg; rw [List.take_of_length_le (by simp; omega)]

/-! ### first, lines -/
def firstB (s : ByteArray) (n : Nat) : ByteArray := if n < s.size then s.extract 0 n else s
theorem firstB_size (s : ByteArray) (n : Nat) : (firstB s n).size ≤ n := by 
  unfold firstB
  split
  · rw [ByteArray.size_extract]; omega
  · omega
theorem ends_take_succ (s : ByteArray) (k : Nat) (hk : k < s.size) : ends (s.data.toList.take (k + 1)) = ends (s.data.toList.take k) + if s[k] = 10 then 1 else 0 := by
  have hl : k < s.data.toList.length := by simpa using hk
  unfold ends
  rw [List.take_succ_eq_append_getElem hl, List.filter_append, List.length_append]
  congr 1
  rw [show s.data.toList[k] = s[k] from rfl]
  by_cases h : s[k] = 10
  · rw [if_pos h, List.filter_cons, if_pos (by simp [h])]; rfl
  · rw [if_neg h, List.filter_cons, if_neg (by simp [h])]; rfl
theorem ends_le (l : List UInt8) : ends l ≤ l.length := List.length_filter_le _ _
end Go.Proofs.YtghcololkgeoeabDoor
