/- Package check, over the landed code: it does what is said of it. -/
import Derived.Test.YtdaiooelglablaaDoorLv
import Derived.Test.YtdaiooelglablaaDoorL6
namespace Go.Proofs.YtdaiooelglablaaDoor
open Go.RowKit Go.WideShapes
set_option linter.unusedVariables false
theorem checkSpec : CheckSpec Tab where
  check := fun w m a hT hm hS hw => ck_check w hT m a hm hS hw
  units := fun w m a bits hT hm hS hw hb => ck_units w m a bits hm hw.unit
  step := fun w m a hT hm hS hw => ck_step w hT m a hm hS hw
  meet := fun w m a i j hT hm hS hw h1 h2 => ck_meet w m a i j hm hS hw
end Go.Proofs.YtdaiooelglablaaDoor
