/-
  What the laid table gives: the cells of the table of operations.
-/
import Derived.Test.YthkhadbeomkihaaDoorCdW2
import Derived.ProofKit
import Derived.LaidMore
import Derived.OpenShut
import Derived.Stop.Joined
namespace Go.Proofs.YthkhadbeomkihaaDoor
set_option maxRecDepth 100000
open Go.ChangeShapes Go.WideShapes Go.ChangeAt Go.WideMaps Go.WideElems Go.RowKit

/-- The table's name, and what the rows list of it. -/
abbrev opsName : String := Rows.machineRunsRow.named.headD ""
abbrev laidOps : List (String × DataW Unit) := Rows.machineRunsRow.laid
theorem own : ownKnob Tryd.prog.godebug = none := by kernel_rfl
theorem laidOut : laidOutB Tryd.prog = true := by kernel_rfl
theorem gOps : Tryd.prog.globalNamed opsName = some 0 := by kernel_rfl
theorem tOps : (Tryd.prog.globals[0]?).map (·.type) = some 124 := by kernel_rfl
theorem cells52 : Tryd.prog.cellsOf 124 = 130 := by kernel_rfl
theorem cells51 : Tryd.prog.cellsOf 123 = 5 := by kernel_rfl
theorem cells49 : Tryd.prog.cellsOf 121 = 1 := by kernel_rfl
theorem cells9 : Tryd.prog.cellsOf 9 = 1 := by kernel_rfl

/-- The datum of one operation. -/
def opD (i : Nat) : DataW Unit := .agg [.lit (.string (Cd.names.getD i [])), .lit (.int .u8 (Cd.ka i)), .lit (.int .u8 (Cd.kb i)), .lit (.int .u8 (Cd.kc i)), .lit (.int .u8 (Cd.ki i))]
theorem laid_eq : (Rows.laid_backreach_code_operations : DataW Unit) = .agg ((List.range 26).map opD) := by kernel_rfl

set_option maxRecDepth 20000 in
theorem row_of_trod {enc : TypeId × Value → Unit} {W : World} {b : Nat} {sp : Nat → Bool} {hd : Bool} {fuel : Nat} {l : List Value} {x : DataW Unit × List MemPlace} {i : Nat}
    (h : DataW.trod enc Tryd.prog W b sp hd fuel 123 l = some x) (hx : x.1 = opD i) : l = [.string (Cd.nm i), .int .u8 (Cd.ka i), .int .u8 (Cd.kb i), .int .u8 (Cd.kc i), .int .u8 (Cd.ki i)] := by
  obtain ⟨ys, n, _, rfl, hl, hy, hf⟩ := DataW.trod_struct Tryd.underlying123 h
  rw [cells51] at hl
  have g0 := hf 0 _ rfl
  have g1 := hf 1 _ rfl
  have g2 := hf 2 _ rfl
  have g3 := hf 3 _ rfl
  have g4 := hf 4 _ rfl

  match l, hl with
  | [c0, c1, c2, c3, c4], _ =>
    match ys, hy with
    | [y0, y1, y2, y3, y4], _ =>
      simp at g0 g1 g2 g3 g4
      obtain ⟨s, e0, rfl, _⟩ := DataW.trod_string Tryd.underlying9 g0
      obtain ⟨n1, e1, rfl, _⟩ := DataW.trod_int Tryd.underlying121 g1
      obtain ⟨n2, e2, rfl, _⟩ := DataW.trod_int Tryd.underlying121 g2
      obtain ⟨n3, e3, rfl, _⟩ := DataW.trod_int Tryd.underlying121 g3
      obtain ⟨n4, e4, rfl, _⟩ := DataW.trod_int Tryd.underlying121 g4
      simp [opD, cells49, cells9] at hx e0 e1 e2 e3 e4
      obtain ⟨hs, rfl, rfl, rfl, rfl⟩ := hx
      subst e0 e1 e2 e3 e4
      rw [Cd.nm, List.getD_eq_getElem?_getD, ← hs]

theorem ops_of_laid {W : World} (h : laidMetH Tryd.prog laidOps W) : Ops W := by
  rw [MakeChecks.laidMetH_plain _ _ _ (by kernel_rfl)] at h
  obtain ⟨ps, ⟨g0, t0, cs0, f0, p0, q0, hg0, ht0, hv0, hd0, _, _⟩, _, _⟩ := h
  obtain rfl := Option.some.inj (gOps.symm.trans hg0)
  obtain rfl := Option.some.inj (tOps.symm.trans ht0)
  obtain ⟨xs, m1, rfl, hx1, hlen, hn, hel⟩ := DataW.trod_array Tryd.underlying124 hd0
  rw [laid_eq] at hx1
  simp only [Prod.mk.injEq, DataW.agg.injEq] at hx1
  intro i hi
  have h1 := hel i hi
  have hxl : i < xs.length := by omega
  rw [List.getElem?_eq_getElem hxl, cells51] at h1
  have h2 : xs[i].1 = opD i := by
    have := congrArg (fun l => l[i]?) hx1.1
    simp [List.getElem?_eq_getElem hxl, hi] at this
    exact this.symm
  have h3 := row_of_trod h1 h2
  have h4 : ∀ j, j < 5 → W.cell? ⟨0, i * 5 + j, none⟩ = ((cs0.toList.drop (i * 5)).take 5)[j]? := fun j hj => by
    rw [World.var?_cell hg0 hv0, List.getElem?_take_of_lt hj, List.getElem?_drop, Array.getElem?_toList]
  rw [h3] at h4
  exact ⟨h4 0 (by omega), h4 1 (by omega), h4 2 (by omega), h4 3 (by omega), h4 4 (by omega)⟩

/-- The door's own heap meets the condition. -/
theorem door_met (os : Os) (args : Array Value) : laidMetH Tryd.prog laidOps ((World.doorLaid Tryd.prog 40 os).forCall (fun _ _ => 0) ⟨#[], args, []⟩).memory :=
  laidMetH_of_parts3 (fuel := 8) (laidMet_of_run' 8 (by kernel_rfl) (by kernel_rfl)) (by kernel_rfl) (by kernel_rfl)
end Go.Proofs.YthkhadbeomkihaaDoor
