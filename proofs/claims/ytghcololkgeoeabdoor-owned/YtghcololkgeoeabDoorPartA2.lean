import Derived.Test.YtghcololkgeoeabDoorPartA1
namespace Go.Proofs.YtghcololkgeoeabDoor
open Go.RowKit
open Classical
set_option linter.unusedVariables false
set_option linter.unusedSimpArgs false
attribute [local go_sem ↓] Go.wp_at_zero Go.wp_at_succ
end Go.Proofs.YtghcololkgeoeabDoor
