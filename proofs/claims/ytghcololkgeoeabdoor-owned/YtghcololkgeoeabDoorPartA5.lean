import Derived.Test.YtghcololkgeoeabDoorPartA4
import Derived.Test.YtghcololkgeoeabDoorPartA0
namespace Go.Proofs.YtghcololkgeoeabDoor
open Go.RowKit
set_option linter.unusedVariables false
set_option linter.unusedSimpArgs false

theorem toRow {w : World} {base : Nat} {t : TypeId} {sz : Nat} {a : Option Addr} {n c : Nat} {xs : List Value} (h : w.ownsRow base t sz (.slice a n c) n xs) : Row w t sz a n c xs := by
  obtain ⟨h1, h2⟩ := h
  refine ⟨h1, ?_⟩
  rcases h2 with h2 | ⟨g, cap, cur, hv, hg, r⟩
  · exact Or.inl h2
  · exact Or.inr ⟨g, cap, cur, hv, Nat.zero_le _, r⟩
/-- the least mark of the active ones among the first k sources -/
def Ref.active (R : Ref) (i : Nat) : Bool := (match R.srcs[i]? with | some r => r.inn | none => false) && !R.isIdle i
def Ref.leastOf (R : Ref) : Nat → Option Int
  | 0 => none
  | k + 1 => if R.active k then (match R.leastOf k with | none => some (R.mark k) | some m => if R.mark k < m then some (R.mark k) else some m) else R.leastOf k
/-- one more than the greatest time -/
def topOf (l : List Ev) : Option Int := l.foldl (fun o e => match o with | none => some (e.ts + 1) | some m => if m < e.ts + 1 then some (e.ts + 1) else some m) none
theorem topOf_snoc (l : List Ev) (e : Ev) : topOf (l ++ [e]) = match topOf l with | none => some (e.ts + 1) | some m => if m < e.ts + 1 then some (e.ts + 1) else some m := by
  unfold topOf; rw [List.foldl_append]; rfl
theorem topOf_none (l : List Ev) : topOf l = none ↔ l = [] := by
  constructor
  · intro h
    rcases List.eq_nil_or_concat l with e | ⟨L, x, e⟩
    · exact e
    · rw [e, List.concat_eq_append, topOf_snoc] at h
      split at h
      · simp at h
      · split at h <;> simp at h
  · rintro rfl; rfl
def Ref.aim (R : Ref) : Option Int := if (R.leastOf R.srcs.length).isSome then R.leastOf R.srcs.length else topOf (R.wait (-1))
def Ref.settled (R : Ref) : Ref := match R.aim with | some m => if R.merged < m then { R with merged := m } else R | none => R

theorem Ref.active_eq {R : Ref} {i : Nat} (hi : i < R.srcs.length) : R.active i = (R.srcs[i].inn && !R.isIdle i) := by simp [Ref.active, List.getElem?_eq_getElem hi]

end Go.Proofs.YtghcololkgeoeabDoor
namespace Go.Proofs.YtghcololkgeoeabDoor
open Go.RowKit
set_option linter.unusedVariables false
set_option linter.unusedSimpArgs false

theorem set_get {α : Type} {l : List α} {i j : Nat} {a b : α} (h : (l.set i a)[j]? = some b) : (i = j ∧ b = a) ∨ (i ≠ j ∧ l[j]? = some b) := by
  rw [List.getElem?_set] at h
  split at h
  · rename_i e
    split at h
    · simp only [Option.some.injEq] at h; exact Or.inl ⟨e, h.symm⟩
    · simp at h
  · rename_i e; exact Or.inr ⟨e, h⟩
theorem fp_set_src {R : Ref} {b i : Nat} (r' : RSrc) (hi : i < R.srcs.length) : ({ R with srcs := R.srcs.set i r' } : Ref).fp b = ((R.fp b).set (5 + 2 * i) (bk r'.ma)).set (6 + 2 * i) (bk r'.qa) := by
  have key : ∀ (l : List RSrc) (i : Nat), i < l.length → (l.set i r').flatMap (fun r => [bk r.ma, bk r.qa]) = ((l.flatMap (fun r => [bk r.ma, bk r.qa])).set (2 * i) (bk r'.ma)).set (2 * i + 1) (bk r'.qa) := by
    intro l
    induction l with
    | nil => intro i hi; simp at hi
    | cons a l ih =>
      intro i hi
      cases i with
      | zero => simp
      | succ i =>
        simp only [List.set_cons_succ, List.flatMap_cons]
        rw [ih i (by simpa using hi), List.set_append_right _ _ (by simp; omega), List.set_append_right _ _ (by simp; omega)]
        simp [show 2 * (i + 1) - 2 = 2 * i by omega, show 2 * (i + 1) + 1 - 2 = 2 * i + 1 by omega]
  unfold Ref.fp
  simp only
  rw [key R.srcs i hi, List.set_append_right _ _ (by simp), List.set_append_right _ _ (by simp; omega)]
  simp [show 5 + 2 * i - 5 = 2 * i by omega, show 6 + 2 * i - 5 = 2 * i + 1 by omega]
theorem set_self {α : Type} {l : List α} {i : Nat} {a : α} (h : l[i]? = some a) : l.set i a = l := by
  apply List.ext_getElem?
  intro j
  rw [List.getElem?_set]
  split
  · rename_i e
    subst e
    rw [h, if_pos (by rw [List.getElem?_eq_some_iff] at h; exact h.1)]
  · rfl

theorem ints_snoc (l : List Int) (x : Int) : ints (l ++ [x]) = ints l ++ [.int .i64 x] := by simp [ints]
/-- where a row lies behind an append -/
theorem app_at {a : Option Addr} {n c g H : Nat} (h : (Value.slice a n c).ownBlock = some g ∨ g = H) : bk a = some g ∨ ∃ k, some g = some k ∧ H ≤ k := by
  rcases h with h | h
  · rw [bk_own] at h; exact Or.inl h
  · exact Or.inr ⟨g, rfl, by omega⟩

theorem app_grow {w : World} {b : Nat} {R : Ref} {L : List (Option Nat)} {j g : Nat} {a : Option Addr} {n c : Nat} (hL : L = (R.fp b).set j (some g)) (hj : (R.fp b)[j]? = some (bk a)) (hat : (Value.slice a n c).ownBlock = some g ∨ g = w.heap.size + 1) :
    ∀ k, some k ∈ L → some k ∈ R.fp b ∨ w.heap.size ≤ k := by
  intro k hk
  rw [hL] at hk
  rcases List.mem_or_eq_of_mem_set hk with e | e
  · exact Or.inl e
  · simp only [Option.some.injEq] at e
    subst e
    rcases app_at hat with e | ⟨m, e, hm⟩
    · exact Or.inl (List.mem_of_getElem? (by rw [hj, e]))
    · simp only [Option.some.injEq] at e; right; omega
theorem settled_fp (R : Ref) (b : Nat) : R.settled.fp b = R.fp b := by
  unfold Ref.settled
  split
  · split <;> rfl
  · rfl
end Go.Proofs.YtghcololkgeoeabDoor
namespace Go.Proofs.YtghcololkgeoeabDoor
open Go.RowKit
set_option linter.unusedVariables false
set_option linter.unusedSimpArgs false
attribute [local go_sem ↓] Go.wp_at_zero Go.wp_at_succ

/-- the answers' shape: the error, the engine behind -/
def JoinR (R : Ref) (s : Int) : Int := if s < 0 ∨ (R.srcs.length : Int) ≤ s then 3 else if (match R.srcs[s.toNat]? with | some r => r.inn | none => false) then 4 else 0

end Go.Proofs.YtghcololkgeoeabDoor
