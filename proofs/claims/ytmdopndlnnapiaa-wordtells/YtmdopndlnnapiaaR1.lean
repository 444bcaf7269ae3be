/-
  Blocks that hold 64 bools, as functions from places to bools; the steps of a walk that load and store them whole.
-/
import Derived.Test.YtmdopndlnnapiaaW4
import Derived.Test.YtmdopndlnnapiaaBits
import Derived.Deep.WholeRow
namespace Go.Proofs.Ytmdopndlnnapiaa
open Go.RowKit

def bw (f : Nat → Bool) : Array Value := Array.ofFn (n := 64) fun i => .bool (f i)
theorem bw_size (f : Nat → Bool) : (bw f).size = 64 := by simp [bw]
theorem bw_get (f : Nat → Bool) (j : Nat) (h : j < 64) : (bw f)[j]? = some (.bool (f j)) := by simp [bw, h]
theorem bw_zero : #[Value.bool false, .bool false, .bool false, .bool false, .bool false, .bool false, .bool false, .bool false, .bool false, .bool false, .bool false, .bool false, .bool false, .bool false, .bool false, .bool false,
    .bool false, .bool false, .bool false, .bool false, .bool false, .bool false, .bool false, .bool false, .bool false, .bool false, .bool false, .bool false, .bool false, .bool false, .bool false, .bool false,
    .bool false, .bool false, .bool false, .bool false, .bool false, .bool false, .bool false, .bool false, .bool false, .bool false, .bool false, .bool false, .bool false, .bool false, .bool false, .bool false,
    .bool false, .bool false, .bool false, .bool false, .bool false, .bool false, .bool false, .bool false, .bool false, .bool false, .bool false, .bool false, .bool false, .bool false, .bool false, .bool false] = bw off := by
  rfl
theorem bw_congr {f g : Nat → Bool} (h : ∀ i, i < 64 → f i = g i) : bw f = bw g := by
  unfold bw; congr 1; funext i; rw [h i i.2]
theorem bw_one (f : Nat → Bool) : (bw f).all (·.oneCell') = true := by
  rw [Array.all_eq_true_iff_forall_mem]
  intro v hv
  simp only [bw, Array.mem_ofFn] at hv
  obtain ⟨i, rfl⟩ := hv
  rfl
theorem size29 (f : Nat → Bool) : (Try.prog.info? 29).map (·.size) = some (bw f).size := by rw [bw_size]; kernel_rfl

/-- Block g holds the 64 bools f. -/
def Row (W : World) (g : Nat) (f : Nat → Bool) : Prop := W.heap[g]? = some (.cells (bw f) 29)
theorem Row.new (w : World) (f : Nat → Bool) : Row (w.alloc (.cells (bw f) 29)) w.heap.size f := heap_alloc_last w _
theorem Row.new_at (w : World) (f : Nat → Bool) {g : Nat} (h : w.heap.size = g) : Row (w.alloc (.cells (bw f) 29)) g f := h ▸ Row.new w f
theorem Row.lt {W : World} {g : Nat} {f : Nat → Bool} (h : Row W g f) : g < W.heap.size := (Array.getElem?_eq_some_iff.1 h).1
theorem Row.alloc {W : World} {g : Nat} {f : Nat → Bool} (h : Row W g f) (o : Obj) : Row (W.alloc o) g f := by
  have := h.lt
  unfold Row at *
  rw [Below.heap_alloc _ _ _ this]; exact h
theorem Row.drewN {W : World} {g : Nat} {f : Nat → Bool} (h : Row W g f) (n : Nat) : Row (W.drewN n) g f := h
theorem Row.cell {W : World} {g : Nat} {f : Nat → Bool} (h : Row W g f) {j : Nat} (hj : j < 64) : W.cell? ⟨g, j, none⟩ = some (.bool (f j)) := by
  rw [cell_of_row W g j _ _ _ h, bw_get f j hj]
theorem Row.loose {W : World} {g : Nat} {f : Nat → Bool} (h : Row W g f) (j : Nat) : W.frozen? ⟨g, j, none⟩ = false := by
  unfold Row at h
  simp [World.frozen?, h]
theorem bw_none (f : Nat → Bool) (j : Nat) (h : ¬ j < 64) : (bw f)[j]? = none := by
  rw [Array.getElem?_eq_none_iff, bw_size]; omega
theorem bw_set (f : Nat → Bool) (j : Nat) (b : Bool) : (bw f).setIfInBounds j (.bool b) = bw (upd f j b) := by
  apply Array.ext_getElem?
  intro i
  rw [Array.getElem?_setIfInBounds]
  by_cases hi : i < 64
  · by_cases e : j = i
    · subst e; rw [if_pos rfl, if_pos (by rw [bw_size]; exact hi)]; rw [bw_get _ j hi]; unfold upd; rw [if_pos rfl]
    · rw [if_neg e, bw_get _ i hi, bw_get _ i hi]; unfold upd; rw [if_neg (fun q => e (Eq.symm q))]
  · rw [bw_none (upd f j b) i hi]
    by_cases e : j = i
    · subst e; rw [if_pos rfl, if_neg (by rw [bw_size]; exact hi)]
    · rw [if_neg e, bw_none _ i hi]
theorem Row.set_same {W : World} {g : Nat} {f : Nat → Bool} (h : Row W g f) (j : Nat) (b : Bool) : Row (W.setCell ⟨g, j, none⟩ (.bool b)) g (upd f j b) := by
  unfold Row at *
  rw [setCell_eq_setRow W g j _ _ _ _ h, setRow_heap W g _ _ _ _ h, bw_set]
theorem Row.set_other {W : World} {g : Nat} {f : Nat → Bool} (h : Row W g f) {k : Nat} (hk : g ≠ k) (j : Nat) (v : Value) : Row (W.setCell ⟨k, j, none⟩ v) g f := by
  unfold Row at *
  rw [Below.heap_setCell _ _ _ _ hk]; exact h
theorem Row.below {B : Nat} {W W' : World} {g : Nat} {f : Nat → Bool} (h : Row W g f) (hb : Below B W W') (hg : g < B) : Row W' g f := by
  unfold Row at *
  rw [hb.block g hg]; exact h
theorem Row.row_same {W : World} {g : Nat} {f : Nat → Bool} (h : Row W g f) (k : Nat → Bool) : Row (W.setRow g (bw k)) g k := setRow_heap W g _ _ _ _ h
theorem Row.row_other {W : World} {g : Nat} {f : Nat → Bool} (h : Row W g f) {k : Nat} (hk : g ≠ k) (c : Array Value) : Row (W.setRow k c) g f := by
  unfold Row at *
  rw [setRow_other W k g c hk]; exact h
theorem below_setRow {B : Nat} {a W : World} (h : Below B a W) {g : Nat} (hg : B ≤ g) (c : Array Value) : Below B a (W.setRow g c) :=
  h.trans ⟨rfl, rfl, rfl, by simp, fun k hk => setRow_other W g k c (by omega)⟩
theorem below_drewN {B : Nat} {a W : World} (h : Below B a W) (n : Nat) : Below B a (W.drewN n) := ⟨h.os, h.tape, h.output, h.size, h.block⟩

theorem load_row {ops : Array Oper} {rest : List Oper} {o : Oper} {a : Act} {w : World} {Q : Exit → Act → World → Prop} (x : Operand) (g : Nat) (f : Nat → Bool) (hr : Row w g f) (hgd : o.guard = none) (ho : o.op = .load 29 x)
    (hx : a.eval x = .pointer (some ⟨g, 0, none⟩)) (h : wpList Try.prog ops Q rest (a.put o.dst (.agg (bw f))) w) : wpList Try.prog ops Q (o :: rest) a w :=
  wpList_load_row hgd 29 x ho g hx 29 (bw f) (0, 0) _ hr Try.underlying29 rfl (size29 f) h
theorem store_row {ops : Array Oper} {rest : List Oper} {o : Oper} {a : Act} {w : World} {Q : Exit → Act → World → Prop} (x y : Operand) (g : Nat) (f k : Nat → Bool) (hr : Row w g f) (hgd : o.guard = none) (ho : o.op = .store 29 x y)
    (hx : a.eval x = .pointer (some ⟨g, 0, none⟩)) (hy : a.eval y = .agg (bw k))
    (h : wpList Try.prog ops Q rest (a.put o.dst undef) (w.setRow g (bw k))) : wpList Try.prog ops Q (o :: rest) a w :=
  wpList_store_row hgd 29 x y ho g (bw k) hx hy 29 (bw f) hr (size29 k) (by rw [bw_size, bw_size]) (bw_one k) h
theorem ret_row {fn : Func} {p : Tmp} {R : Ending → World → Prop} {a : Act} {w : World} (g : Nat) (f : Nat → Bool) (hr : Row w g f) (hf : fn.results = #[.cell p 29]) (hd : a.defers = []) (hp : a.tmps.getD p undef = .pointer (some ⟨g, 0, none⟩)) (hR : R (.returned (.agg (bw f))) w) :
    bodyPost Try.prog fn R .ret a w :=
  bodyPost_ret (results_cell_row hf a.tmps w g 29 (bw f) (0, 0) _ hp hr Try.underlying29 rfl (size29 f)) hd hR

/-- The block made last of a world that is written out. -/
theorem below_three {w : World} {o1 o2 o3 : Obj} : Below w.heap.size w (((w.alloc o1).alloc o2).alloc o3) := (((Below.refl _ _).alloc (Nat.le_refl _) _).alloc (by simp) _).alloc (by simp; omega) _
theorem below_four {w : World} {o1 o2 o3 o4 : Obj} : Below w.heap.size w ((((w.alloc o1).alloc o2).alloc o3).alloc o4) := (below_three).alloc (by simp; omega) _
theorem below_two {w : World} {o1 o2 : Obj} : Below w.heap.size w ((w.alloc o1).alloc o2) := ((Below.refl _ _).alloc (Nat.le_refl _) _).alloc (by simp) _
theorem below_one {w : World} {o1 : Obj} : Below w.heap.size w (w.alloc o1) := (Below.refl _ _).alloc (Nat.le_refl _) _
end Go.Proofs.Ytmdopndlnnapiaa
