/-
  The contract of the laws' own examples (awake), and what the laws want of the plain arithmetic.
-/
import Derived.Test.YthkhadbeomkihaaDoorWdW2
namespace Go.Proofs.YthkhadbeomkihaaDoor
set_option maxRecDepth 100000
open Go.RowKit

theorem grown_drewN {W w' : World} (h : Grown W w') (n : Nat) : Grown W (w'.drewN n) := h
end Go.Proofs.YthkhadbeomkihaaDoor
