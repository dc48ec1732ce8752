import Derived.Test.YtghcololkgeoeaaDoorPartN2
import Derived.Deep.RegionWith
namespace Go.Proofs.YtghcololkgeoeaaDoor
open Go.RowKit
set_option linter.unusedVariables false
set_option linter.unusedSimpArgs false
attribute [local go_sem ↓] Go.wp_at_zero Go.wp_at_succ

theorem twin_log {P : Nat → Prop} {X Y : Eng} (h : Twin P X Y) : X.log = Y.log := by
  obtain ⟨⟨N, R, h1, h2⟩, _⟩ := h
  exact like_log_eq h1 h2
theorem cfg_ps3 (r : RawC) : r.cfg.ps.length ≤ 3 := by
  unfold Cfg.ps
  show (patSteps (patText r.pattern)).length ≤ 3
  rw [(patText_steps r.pattern).2.1]
  rw [patPairs_len]
  unfold patN
  omega
end Go.Proofs.YtghcololkgeoeaaDoor
