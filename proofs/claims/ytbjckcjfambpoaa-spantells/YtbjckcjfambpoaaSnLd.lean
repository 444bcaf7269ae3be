/-
  Layer 11: how the program's types are laid.
-/
import Derived.Test.YtbjckcjfambpoaaSnO
import Derived.Below
import Derived.Lib.SmallJoins
import Derived.ChangeOld
namespace Go.Proofs.Ytbjckcjfambpoaa
set_option linter.unusedSimpArgs false
set_option linter.unusedVariables false
set_option maxRecDepth 100000
open Go.RowKit Go.ChangeShapes Go.WideShapes Go.ChangeAt
theorem laidOut : laidOutB Try.prog = true := by kernel_rfl
end Go.Proofs.Ytbjckcjfambpoaa
