/-
  Contract of the reference's Right.
-/
import Derived.Test.YtfehmbcgehflmaaTmW3
import Derived.Deep.RegionHeld3
namespace Go.Proofs.Ytfehmbcgehflmaa
set_option linter.unusedSimpArgs false
set_option linter.unusedVariables false
open Go.RowKit

def Tm.rres (op v n x y u : Int) : Int := if Tm.rwid op v x y u ≠ v ∨ v < 0 then 8 else if Tm.mst op v < n then 3 else 0

/-- Nine cells: a node's, and an array's behind it. -/
theorem nine_keep {W v : World} {h : Nat} {c0 c1 c2 c3 c4 c5 d0 d1 d2 : Value} (hb : Below W.heap.size W v) (hz : h + 1 < W.heap.size)
    (k : W.cell? ⟨h, 0, none⟩ = some c0 ∧ W.cell? ⟨h, 1, none⟩ = some c1 ∧ W.cell? ⟨h, 2, none⟩ = some c2 ∧ W.cell? ⟨h, 3, none⟩ = some c3 ∧ W.cell? ⟨h, 4, none⟩ = some c4 ∧ W.cell? ⟨h, 5, none⟩ = some c5 ∧ W.cell? ⟨h + 1, 0, none⟩ = some d0 ∧ W.cell? ⟨h + 1, 1, none⟩ = some d1 ∧ W.cell? ⟨h + 1, 2, none⟩ = some d2) :
    v.cell? ⟨h, 0, none⟩ = some c0 ∧ v.cell? ⟨h, 1, none⟩ = some c1 ∧ v.cell? ⟨h, 2, none⟩ = some c2 ∧ v.cell? ⟨h, 3, none⟩ = some c3 ∧ v.cell? ⟨h, 4, none⟩ = some c4 ∧ v.cell? ⟨h, 5, none⟩ = some c5 ∧ v.cell? ⟨h + 1, 0, none⟩ = some d0 ∧ v.cell? ⟨h + 1, 1, none⟩ = some d1 ∧ v.cell? ⟨h + 1, 2, none⟩ = some d2 :=
  ⟨cells_below hb k.1 (by omega), cells_below hb k.2.1 (by omega), cells_below hb k.2.2.1 (by omega), cells_below hb k.2.2.2.1 (by omega), cells_below hb k.2.2.2.2.1 (by omega), cells_below hb k.2.2.2.2.2.1 (by omega), cells_below hb k.2.2.2.2.2.2.1 hz, cells_below hb k.2.2.2.2.2.2.2.1 hz, cells_below hb k.2.2.2.2.2.2.2.2 hz⟩

end Go.Proofs.Ytfehmbcgehflmaa
