import Derived.Test.YtghcololkgeoeaaDoorPartA1
namespace Go.Proofs.YtghcololkgeoeaaDoor
open Go.RowKit
open Classical
set_option linter.unusedVariables false
set_option linter.unusedSimpArgs false
attribute [local go_sem ↓] Go.wp_at_zero Go.wp_at_succ
end Go.Proofs.YtghcololkgeoeaaDoor
