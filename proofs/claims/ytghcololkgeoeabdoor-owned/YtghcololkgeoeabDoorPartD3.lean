import Derived.Test.YtghcololkgeoeabDoorPartD2
import Derived.Test.YtghcololkgeoeabDoorPartC4
import Derived.Test.YtghcololkgeoeabDoorPartA8
namespace Go.Proofs.YtghcololkgeoeabDoor
open Go.RowKit
set_option linter.unusedVariables false
set_option linter.unusedSimpArgs false
attribute [local go_sem ↓] Go.wp_at_zero Go.wp_at_succ

end Go.Proofs.YtghcololkgeoeabDoor
namespace Go.Proofs.YtghcololkgeoeabDoor
open Go.RowKit
set_option linter.unusedVariables false
set_option linter.unusedSimpArgs false
attribute [local go_sem ↓] Go.wp_at_zero Go.wp_at_succ

theorem wrong_same {X : Eng} {R : Ref} {i : Nat} {p : PSrc} {r : RSrc} {c : Cfg} (s : SrcSim c p r) (E : Ev) : pWrong p E = wrongOf r E := by
  unfold pWrong wrongOf
  rw [s.inn, s.last]
end Go.Proofs.YtghcololkgeoeabDoor
