/-
  Contracts of makeActions and newRunner.
-/
import Derived.Test.YthkhadbeomkihaaDoorMc11
namespace Go.Proofs.YthkhadbeomkihaaDoor
set_option maxRecDepth 100000
open Go.RowKit

abbrev actA : Array Value := #[.func (.func 68) #[] #[], .func (.func 69) #[] #[], .func (.func 70) #[] #[], .func (.func 71) #[] #[], .func (.func 71) #[] #[], .func (.func 71) #[] #[], .func (.func 72) #[] #[], .func (.func 72) #[] #[], .func (.func 71) #[] #[], .func (.func 71) #[] #[], .func (.func 71) #[] #[], .func (.func 71) #[] #[], .func (.func 71) #[] #[], .func (.func 71) #[] #[], .func (.func 71) #[] #[], .func (.func 71) #[] #[], .func (.func 71) #[] #[], .func (.func 73) #[] #[], .func (.func 74) #[] #[], .func (.func 75) #[] #[], .func (.func 76) #[] #[], .func (.func 77) #[] #[], .func (.func 78) #[] #[], .func (.func 79) #[] #[], .func (.func 80) #[] #[], .func (.func 81) #[] #[]]
theorem below_setRowM {B : Nat} {a W : World} (h : Below B a W) {g : Nat} (hg : B ≤ g) (c : Array Value) : Below B a (W.setRow g c) :=
  h.trans ⟨rfl, rfl, rfl, by simp, fun k hk => setRow_other W g k c (by omega)⟩
theorem size69 : (Tryd.prog.info? 69).map (·.size) = some actA.size := by kernel_rfl
theorem store_act {ops : Array Oper} {rest : List Oper} {o : Oper} {a : Act} {w : World} {Q : Exit → Act → World → Prop} (x y : Operand) (g : Nat) (old : Array Value) (hr : w.heap[g]? = some (.cells old 69 (0, 0))) (hz : old.size = 26) (hgd : o.guard = none) (ho : o.op = .store 69 x y)
    (hx : a.eval x = .pointer (some ⟨g, 0, none⟩)) (hy : a.eval y = .agg actA)
    (h : wpList Tryd.prog ops Q rest (a.put o.dst undef) (w.setRow g actA)) : wpList Tryd.prog ops Q (o :: rest) a w :=
  wpList_store_row hgd 69 x y ho g actA hx hy 69 old hr size69 hz (by kernel_rfl) h
theorem ret_act {fn : Func} {p : Tmp} {R : Ending → World → Prop} {a : Act} {w : World} (g : Nat) (hr : w.heap[g]? = some (.cells actA 69 (0, 0))) (hf : fn.results = #[.cell p 69]) (hd : a.defers = []) (hp : a.tmps.getD p undef = .pointer (some ⟨g, 0, none⟩)) (hR : R (.returned (.agg actA)) w) :
    bodyPost Tryd.prog fn R .ret a w :=
  bodyPost_ret (results_cell_row hf a.tmps w g 69 actA (0, 0) _ hp hr Tryd.underlying69 rfl size69) hd hR

set_option maxRecDepth 20000 in
set_option maxHeartbeats 3200000 in
theorem makeActions_any (w : World) : Calls Tryd.prog 46 #[] w fun e w' => e = .returned (.agg actA) ∧ Below w.heap.size w w' := by
  have hB : ∀ o, Below w.heap.size w (w.alloc o) := fun o => Below.box w o
  have hg : ∀ o, (w.alloc o).heap[w.heap.size]? = some o := fun o => heap_newM rfl
  go_enter Tryd.func46, Tryd.ntmps46
  go_upto_region 1 with (fail)
  have h1 := hB (.cells #[.nilFunc, .nilFunc, .nilFunc, .nilFunc, .nilFunc, .nilFunc, .nilFunc, .nilFunc, .nilFunc, .nilFunc, .nilFunc, .nilFunc, .nilFunc, .nilFunc, .nilFunc, .nilFunc, .nilFunc, .nilFunc, .nilFunc, .nilFunc, .nilFunc, .nilFunc, .nilFunc, .nilFunc, .nilFunc, .nilFunc] 69)
  have h2 := hg (.cells #[.nilFunc, .nilFunc, .nilFunc, .nilFunc, .nilFunc, .nilFunc, .nilFunc, .nilFunc, .nilFunc, .nilFunc, .nilFunc, .nilFunc, .nilFunc, .nilFunc, .nilFunc, .nilFunc, .nilFunc, .nilFunc, .nilFunc, .nilFunc, .nilFunc, .nilFunc, .nilFunc, .nilFunc, .nilFunc, .nilFunc] 69)
  generalize w.alloc (.cells #[.nilFunc, .nilFunc, .nilFunc, .nilFunc, .nilFunc, .nilFunc, .nilFunc, .nilFunc, .nilFunc, .nilFunc, .nilFunc, .nilFunc, .nilFunc, .nilFunc, .nilFunc, .nilFunc, .nilFunc, .nilFunc, .nilFunc, .nilFunc, .nilFunc, .nilFunc, .nilFunc, .nilFunc, .nilFunc, .nilFunc] 69) = w1 at *
  have HB := Lib.hid h1
  have HG := Lib.hid h2
  clear hB hg h1 h2
  go_wp2_with (first | (with_reducible refine store_act (.tmp 0) (.tmp 1) _ _ HG.out rfl rfl rfl rfl rfl ?_) | fail)
  refine ret_act w.heap.size (setRow_heap _ _ _ _ _ _ HG.out) rfl rfl rfl ⟨rfl, below_setRowM HB.out (Nat.le_refl _) _⟩
end Go.Proofs.YthkhadbeomkihaaDoor
