/-
  The runner: its block, what may change beside it; contracts of put, address, and the actions that write one register.
-/
import Derived.Test.YthkhadbeomkihaaDoorImW6
import Derived.Test.YthkhadbeomkihaaDoorWdW3
import Derived.StillTailTactics
namespace Go.Proofs.YthkhadbeomkihaaDoor
set_option maxRecDepth 100000
open Go.RowKit

/-- But for block g, and the blocks m and o, the world w' is as w was. -/
structure Fr (g : Nat) (m o : Option Nat) (w w' : World) : Prop where
  os : w'.os = w.os
  tape : w'.tape = w.tape
  output : w'.output = w.output
  size : w.heap.size ≤ w'.heap.size
  block : ∀ k, k < w.heap.size → k ≠ g → some k ≠ m → some k ≠ o → w'.heap[k]? = w.heap[k]?
theorem Fr.refl (g : Nat) (m o : Option Nat) (w : World) : Fr g m o w w := ⟨rfl, rfl, rfl, Nat.le_refl _, fun _ _ _ _ _ => rfl⟩
theorem Fr.trans {g : Nat} {m o : Option Nat} {a b c : World} (h : Fr g m o a b) (k : Fr g m o b c) : Fr g m o a c :=
  ⟨k.os.trans h.os, k.tape.trans h.tape, k.output.trans h.output, Nat.le_trans h.size k.size, fun i hi h1 h2 h3 => (k.block i (Nat.lt_of_lt_of_le hi h.size) h1 h2 h3).trans (h.block i hi h1 h2 h3)⟩
theorem Fr.of_below {g : Nat} {m o : Option Nat} {w w' : World} (h : Below w.heap.size w w') : Fr g m o w w' := ⟨h.os, h.tape, h.output, h.size, fun k hk _ _ _ => h.block k hk⟩
theorem Fr.wide {g : Nat} {m o : Option Nat} {w w' : World} (h : Fr g none none w w') : Fr g m o w w' := ⟨h.os, h.tape, h.output, h.size, fun k hk h1 _ _ => h.block k hk h1 (by simp) (by simp)⟩
theorem Fr.set {g : Nat} {m o : Option Nat} (w : World) (i : Nat) (v : Value) : Fr g m o w (w.setCell ⟨g, i, none⟩ v) := ⟨rfl, rfl, rfl, by simp, fun k _ hn _ _ => Below.heap_setCell _ _ _ _ hn⟩
theorem Fr.drewN {g : Nat} {m o : Option Nat} {a w : World} (h : Fr g m o a w) (n : Nat) : Fr g m o a (w.drewN n) := ⟨h.os, h.tape, h.output, h.size, h.block⟩
theorem Fr.drew {g : Nat} {m o : Option Nat} {a w : World} (h : Fr g m o a w) : Fr g m o a w.drew := ⟨h.os, h.tape, h.output, h.size, h.block⟩
theorem Fr.box {g : Nat} {m o : Option Nat} (w : World) (x : Obj) : Fr g m o w (w.alloc x) := Fr.of_below (Below.box w x)

/-- The runner's block. -/
abbrev RnB (w : World) (g : Nat) (cs : Array Value) : Prop := w.heap[g]? = some (.cells cs 71 (0, 0))
theorem RnB.c {w : World} {g : Nat} {cs : Array Value} (h : RnB w g cs) (i : Nat) : w.cell? ⟨g, i, none⟩ = cs[i]? := cell_of_row _ _ _ _ _ _ h
theorem RnB.lt {w : World} {g : Nat} {cs : Array Value} (h : RnB w g cs) : g < w.heap.size := blk_lt (t := 71) h
theorem RnB.below {w w' : World} {g : Nat} {cs : Array Value} (h : RnB w g cs) (hb : Below w.heap.size w w') : RnB w' g cs := (hb.block g h.lt).trans h
theorem RnB.set {w : World} {g i : Nat} {cs : Array Value} (h : RnB w g cs) (v : Value) : RnB (w.setCell ⟨g, i, none⟩ v) g (cs.setIfInBounds i v) := Joins.block_setCell h _
theorem RnB.drew {w : World} {g : Nat} {cs : Array Value} (h : RnB w g cs) : RnB w.drew g cs := h
theorem RnB.drewN {w : World} {g : Nat} {cs : Array Value} (h : RnB w g cs) (n : Nat) : RnB (w.drewN n) g cs := h

theorem RnB.box {w : World} {g : Nat} {cs : Array Value} (h : RnB w g cs) (o : Obj) : RnB (w.alloc o) g cs := h.below (Below.box w o)
theorem RnB.cA {w : World} {g : Nat} {cs : Array Value} (h : RnB w g cs) {i : Nat} {v : Value} (hv : cs[i]? = some v) (o : Obj) : (w.alloc o).cell? ⟨g, i, none⟩ = some v := ((h.box o).c i).trans hv
theorem RnB.fA {w : World} {g : Nat} {cs : Array Value} (h : RnB w g cs) (i : Nat) (o : Obj) : (w.alloc o).frozen? ⟨g, i, none⟩ = false := Joins.unfrozen_of_block (h.box o) i
theorem RnB.ex {cs : Array Value} (hz : cs.size = 45) {i : Nat} (hi : i < 45) : ∃ v, cs[i]? = some v := ⟨_, Array.getElem?_eq_getElem (by omega)⟩

set_option maxRecDepth 20000 in
set_option maxHeartbeats 800000 in
theorem put_reg (g a : Nat) (op b c m x : Int) (cs : Array Value) (w : World) (hb : RnB w g cs) (hz : cs.size = 45) (ha : a < 8) :
    Calls Tryd.prog 89 #[.pointer (some ⟨g, 0, none⟩), .agg #[.int .i64 op, .int .i64 a, .int .i64 b, .int .i64 c, .int .u64 m], .int .u64 x] w fun e w' =>
      e = .returned (.int .i64 0) ∧ RnB w' g (cs.setIfInBounds (8 + a) (.int .u64 x)) ∧ Fr g none none w w' := by
  obtain ⟨v, hv⟩ := RnB.ex hz (i := 8 + a) (by omega)
  have c0 := hb.cA hv
  have cf := hb.fA (8 + a)
  have HB := Lib.hid hb
  have ha' : (a : Int) < 8 := by omega
  clear hb hv hz
  go_enter Tryd.func89, Tryd.ntmps89
  go_wp2
  go_region
  go_wp2
  go_ret
  exact ⟨rfl, (HB.out.box _).set _, ((Fr.box _ _).trans (Fr.set _ _ _)).drew⟩

set_option maxRecDepth 20000 in
set_option maxHeartbeats 800000 in
theorem address_any (g b : Nat) (op a c m x : Int) (cs : Array Value) (w : World) (hb : RnB w g cs) (hx : cs[8 + b]? = some (.int .u64 x)) (hl : b < 8) :
    Calls Tryd.prog 94 #[.pointer (some ⟨g, 0, none⟩), .agg #[.int .i64 op, .int .i64 a, .int .i64 b, .int .i64 c, .int .u64 m]] w fun e w' =>
      e = .returned (.int .u64 (IntKind.u64.wrap (x + m))) ∧ Below w.heap.size w w' := by
  have c0 := hb.cA hx
  have ha' : (b : Int) < 8 := by omega
  clear hb hx
  go_enter Tryd.func94, Tryd.ntmps94
  go_wp2
  go_quiet (fail)
  go_wp2
  go_ret
  exact ⟨rfl, below_drewN (Below.box _ _) _⟩
end Go.Proofs.YthkhadbeomkihaaDoor
