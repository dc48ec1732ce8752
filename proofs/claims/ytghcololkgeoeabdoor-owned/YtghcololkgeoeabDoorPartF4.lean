import Derived.Test.YtghcololkgeoeabDoorPartF2
import Derived.Test.YtghcololkgeoeabDoorPartA9
import Derived.Test.YtghcololkgeoeabDoorPartF3
namespace Go.Proofs.YtghcololkgeoeabDoor
open Go.RowKit
set_option linter.unusedVariables false
set_option linter.unusedSimpArgs false
attribute [local go_sem ↓] Go.wp_at_zero Go.wp_at_succ

/-- what a line is to the document: good 0, refused 1 -/
def doneOf (z : Int) : Int := if z = 0 then 0 else 1
end Go.Proofs.YtghcololkgeoeabDoor
namespace Go.Proofs.YtghcololkgeoeabDoor
open Go.RowKit
set_option linter.unusedVariables false
set_option linter.unusedSimpArgs false
attribute [local go_sem ↓] Go.wp_at_zero Go.wp_at_succ

/-- a block of what a Feed found, none of the engine's -/
structure SideR (w : World) (b : Nat) (R : Ref) (rb : Nat) (f : FedN) : Prop where
  blk : Blk w rb 75 f.vals
  off : ¬ some rb ∈ R.fp b
def fedZ (z : Int) : FedN := if z = 0 then ⟨1, 0, 0⟩ else if z = 1 then ⟨0, 1, 0⟩ else ⟨0, 0, 1⟩
end Go.Proofs.YtghcololkgeoeabDoor
