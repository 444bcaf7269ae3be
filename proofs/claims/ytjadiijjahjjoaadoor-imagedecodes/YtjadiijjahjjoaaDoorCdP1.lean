/-
  The walk of the law on an instruction's bytes.
-/
import Derived.Test.YtjadiijjahjjoaaDoorCdG1
namespace Go.Proofs.YtjadiijjahjjoaaDoor
open Go.RowKit

end Go.Proofs.YtjadiijjahjjoaaDoor
