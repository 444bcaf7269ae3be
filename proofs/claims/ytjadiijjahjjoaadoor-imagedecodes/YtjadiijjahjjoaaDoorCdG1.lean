/-
  The walk of the law on bytes that tell an instruction.
-/
import Derived.Test.YtjadiijjahjjoaaDoorCdG0
namespace Go.Proofs.YtjadiijjahjjoaaDoor
open Go.RowKit

/-- An empty row of bytes, just made. -/
theorem own_new (w : World) : (w.alloc (.cells #[] 5)).ownsRow w.heap.size 5 1 (.slice (some ⟨w.heap.size, 0, none⟩) 0 0) 0 [] :=
  ⟨rfl, .inr ⟨w.heap.size, 0, #[], rfl, Nat.le_refl _, heap_alloc_new w _, Nat.le_refl _, Nat.zero_le _, rfl, rfl⟩⟩

end Go.Proofs.YtjadiijjahjjoaaDoor
