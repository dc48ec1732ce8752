import Derived.Test.YtghcololkgeoeabDoorPartA5
namespace Go.Proofs.YtghcololkgeoeabDoor
open Go.RowKit
set_option linter.unusedVariables false
set_option linter.unusedSimpArgs false
attribute [local go_sem ↓] Go.wp_at_zero Go.wp_at_succ

theorem hex {α : Type} (a : α) : ∃ x, Hid (x = a) := ⟨a, rfl⟩
/-- the bounds that every state of the script keeps -/
structure Sane (N : Nat) (R : Ref) : Prop where
  all : R.all.length ≤ 200
  aside : R.aside.length ≤ 200
  n : R.srcs.length ≤ 6
  ts : ∀ e ∈ R.all, -1099511627776 ≤ e.ts ∧ e.ts ≤ 1099511627776 + 200
  marks : ∀ (i : Nat) r, R.srcs[i]? = some r → r.marks.length ≤ N ∧ r.seqs.length ≤ N
  sil : ∀ (i : Nat) r, R.srcs[i]? = some r → 0 ≤ r.sil ∧ r.sil ≤ 1000 * (N : Int)
theorem Sane.ts' {N : Nat} {R : Ref} (h : Sane N R) : ∀ e ∈ R.all, -4398046511104 ≤ e.ts ∧ e.ts ≤ 4398046511104 := fun e he => by have := h.ts e he; omega

/-- Join: the error, or the engine behind -/
def JoinOk (R : Ref) (i : Nat) (r' : RSrc) (R' : Ref) : Prop := ∃ hi : i < R.srcs.length, r' = { R.srcs[i] with inn := true, sil := 0, marks := R.srcs[i].marks ++ [R.merged], ma := r'.ma, mc := r'.mc } ∧ R' = ({ R with srcs := R.srcs.set i r' } : Ref).settled

end Go.Proofs.YtghcololkgeoeabDoor
namespace Go.Proofs.YtghcololkgeoeabDoor
open Go.RowKit
set_option linter.unusedVariables false
set_option linter.unusedSimpArgs false
attribute [local go_sem ↓] Go.wp_at_zero Go.wp_at_succ

def LeaveOk (R : Ref) (i : Nat) (R' : Ref) : Prop := ∃ hi : i < R.srcs.length, R' = ({ R with srcs := R.srcs.set i { R.srcs[i] with inn := false } } : Ref).settled
/-- a source behind a touch -/
def Ref.touched (R : Ref) (i : Nat) (r : RSrc) : List Int := if R.isIdle i then r.marks ++ [R.merged] else r.marks
def PunctOk (R : Ref) (i : Nat) (ts : Int) (R' : Ref) : Prop := ∃ hi : i < R.srcs.length, ∃ r' : RSrc, r' = { R.srcs[i] with sil := 0, marks := R.touched i R.srcs[i] ++ [ts], ma := r'.ma, mc := r'.mc } ∧ R' = ({ R with srcs := R.srcs.set i r' } : Ref).settled

end Go.Proofs.YtghcololkgeoeabDoor
