import Derived.Test.YtghcololkgeoeaaDoorPartD2
import Derived.Test.YtghcololkgeoeaaDoorPartC4
import Derived.Test.YtghcololkgeoeaaDoorPartA8
namespace Go.Proofs.YtghcololkgeoeaaDoor
open Go.RowKit
set_option linter.unusedVariables false
set_option linter.unusedSimpArgs false
attribute [local go_sem ↓] Go.wp_at_zero Go.wp_at_succ

end Go.Proofs.YtghcololkgeoeaaDoor
namespace Go.Proofs.YtghcololkgeoeaaDoor
open Go.RowKit
set_option linter.unusedVariables false
set_option linter.unusedSimpArgs false
attribute [local go_sem ↓] Go.wp_at_zero Go.wp_at_succ

theorem wrong_same {X : Eng} {R : Ref} {i : Nat} {p : PSrc} {r : RSrc} {c : Cfg} (s : SrcSim c p r) (E : Ev) : pWrong p E = wrongOf r E := by
  unfold pWrong wrongOf
  rw [s.inn, s.last]
end Go.Proofs.YtghcololkgeoeaaDoor
