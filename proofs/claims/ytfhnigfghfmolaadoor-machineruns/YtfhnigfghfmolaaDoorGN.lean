/-
  The reference's Step: its ways, one by one.
  The reference's Step: what works with words.
-/
import Derived.Test.YtfhnigfghfmolaaDoorGL
import Derived.Test.YtfhnigfghfmolaaDoorGM
set_option linter.unusedSimpArgs false
set_option linter.unusedVariables false
namespace Go.Proofs.YtfhnigfghfmolaaDoor
set_option maxRecDepth 100000
open Go.RowKit

/-- What became of a state: its memory and its open places are as they were, or of the call's own. -/
def ResR (base : Nat) (v : World) (s s' : Mc.St) (mA : Option Addr) (mcap : Nat) (oA : Option Addr) (ocap : Nat) (V : Array Value) : Prop :=
  ∃ mA' mcap' oA' ocap', V = stC s' (.slice mA' s'.mm.length mcap') (.slice oA' s'.op.length ocap') ∧ ((mA' = mA ∧ mcap' = mcap ∧ s'.mm = s.mm) ∨ v.ownsRow base 5 1 (.slice mA' s'.mm.length mcap') s'.mm.length (s'.mm.map (Value.int .u8))) ∧ ((oA' = oA ∧ ocap' = ocap ∧ s'.op = s.op) ∨ v.ownsRow base 3 1 (.slice oA' s'.op.length ocap') s'.op.length (s'.op.map (Value.int .i64)))
theorem ResR.sz {base v s s' mA mcap oA ocap V} (h : ResR base v s s' mA mcap oA ocap V) : V.size = 11 := by obtain ⟨_, _, _, _, rfl, _⟩ := h; rfl
theorem ResR.one {base v s s' mA mcap oA ocap V} (h : ResR base v s s' mA mcap oA ocap V) : V.all (·.oneCell') = true := by obtain ⟨_, _, _, _, rfl, _⟩ := h; simp [stC, Value.oneCell']
theorem ResR.keep {base b' : Nat} {v v' : World} {s s' mA mcap oA ocap V} (h : ResR base v s s' mA mcap oA ocap V) (hb : b' ≤ base) (hk : ∀ k, base ≤ k → v'.heap[k]? = v.heap[k]?) : ResR b' v' s s' mA mcap oA ocap V := by
  obtain ⟨mA', mcap', oA', ocap', e, h1, h2⟩ := h
  refine ⟨mA', mcap', oA', ocap', e, h1.imp id fun h => ?_, h2.imp id fun h => ?_⟩
  · exact Joins.ownsRow_le (ownsRow.blk h fun k hk' => hk k (h.lt k hk').1) hb
  · exact Joins.ownsRow_le (ownsRow.blk h fun k hk' => hk k (h.lt k hk').1) hb
/-- A callee of Step's: what it makes of a state. -/
def SubR (s s' : Mc.St) (mA : Option Addr) (mcap : Nat) (oA : Option Addr) (ocap : Nat) (en : Int) (W : World) (e : Ending) (w' : World) : Prop :=
  ∃ V, e = .returned (.tuple #[.agg V, .int .i64 en]) ∧ ResR W.heap.size w' s s' mA mcap oA ocap V ∧ Below W.heap.size W w'

set_option maxRecDepth 20000 in
set_option maxHeartbeats 6400000 in
theorem rstep_end0 (mem stk inp : Int) (Ad : Option Addr) (ld cd : Nat) (Af : Option Addr) (lf cf bc oc lc cc : Nat) (Ai : Option Addr) (li ci k : Nat) (a b c m : Int) (z0 z1 z2 z3 z4 z5 z6 z7 : Int) (MA : Option Addr) (mn mc : Nat) (OA : Option Addr) (on occ : Nat) (w : World) (hk : k < lc) (hbc : bc < w.heap.size) (hins : InsAt w bc (oc + k * 5) ⟨0, a, b, c, m⟩) :
    Calls Tryd.prog 20 #[.agg #[.int .i64 mem, .int .i64 stk, .int .i64 inp, .slice Ad ld cd, .slice Af lf cf, .slice (some ⟨bc, oc, none⟩) lc cc], .slice Ai li ci, .agg #[.int .i64 (k : Int), .int .u64 z0, .int .u64 z1, .int .u64 z2, .int .u64 z3, .int .u64 z4, .int .u64 z5, .int .u64 z6, .int .u64 z7, .slice MA mn mc, .slice OA on occ]] w fun e w' => e = .returned (.tuple #[.agg #[.int .i64 (k : Int), .int .u64 z0, .int .u64 z1, .int .u64 z2, .int .u64 z3, .int .u64 z4, .int .u64 z5, .int .u64 z6, .int .u64 z7, .slice MA mn mc, .slice OA on occ], .int .i64 1]) ∧ Below w.heap.size w w' := by
  have h3 := three w (.cells #[.int .i64 mem, .int .i64 stk, .int .i64 inp, .slice Ad ld cd, .slice Af lf cf, .slice (some ⟨bc, oc, none⟩) lc cc] 26) (.cells #[.int .i64 (k : Int), .int .u64 z0, .int .u64 z1, .int .u64 z2, .int .u64 z3, .int .u64 z4, .int .u64 z5, .int .u64 z6, .int .u64 z7, .slice MA mn mc, .slice OA on occ] 45) (.cells #[.int .i64 0, .int .u64 0, .int .u64 0, .int .u64 0, .int .u64 0, .int .u64 0, .int .u64 0, .int .u64 0, .int .u64 0, .slice none 0 0, .slice none 0 0] 45)
  have hB : Below w.heap.size w (((w.alloc (.cells #[.int .i64 mem, .int .i64 stk, .int .i64 inp, .slice Ad ld cd, .slice Af lf cf, .slice (some ⟨bc, oc, none⟩) lc cc] 26)).alloc (.cells #[.int .i64 (k : Int), .int .u64 z0, .int .u64 z1, .int .u64 z2, .int .u64 z3, .int .u64 z4, .int .u64 z5, .int .u64 z6, .int .u64 z7, .slice MA mn mc, .slice OA on occ] 45)).alloc (.cells #[.int .i64 0, .int .u64 0, .int .u64 0, .int .u64 0, .int .u64 0, .int .u64 0, .int .u64 0, .int .u64 0, .int .u64 0, .slice none 0 0, .slice none 0 0] 45)) := (((Below.refl _ _).alloc (Nat.le_refl _) _).alloc (by simp) _).alloc (by simp; omega) _
  have hz : (((w.alloc (.cells #[.int .i64 mem, .int .i64 stk, .int .i64 inp, .slice Ad ld cd, .slice Af lf cf, .slice (some ⟨bc, oc, none⟩) lc cc] 26)).alloc (.cells #[.int .i64 (k : Int), .int .u64 z0, .int .u64 z1, .int .u64 z2, .int .u64 z3, .int .u64 z4, .int .u64 z5, .int .u64 z6, .int .u64 z7, .slice MA mn mc, .slice OA on occ] 45)).alloc (.cells #[.int .i64 0, .int .u64 0, .int .u64 0, .int .u64 0, .int .u64 0, .int .u64 0, .int .u64 0, .int .u64 0, .int .u64 0, .slice none 0 0, .slice none 0 0] 45)).heap.size = w.heap.size + 3 := by simp
  obtain ⟨j0, j1, j2, j3, j4⟩ := hins
  simp only at j0 j1 j2 j3 j4
  have hki : (k : Int) < lc := by omega
  have H3 := Lib.hid h3
  have HB3 := Lib.hid hB
  have HZ3 := Lib.hid hz
  have HJ := Lib.hid (And.intro j0 (And.intro j1 (And.intro j2 (And.intro j3 j4))))
  clear h3 hB hz j0 j1 j2 j3 j4
  go_enter Tryd.func20, Tryd.ntmps20
  go_upto_region 1 with (fail)
  generalize (((w.alloc (.cells #[.int .i64 mem, .int .i64 stk, .int .i64 inp, .slice Ad ld cd, .slice Af lf cf, .slice (some ⟨bc, oc, none⟩) lc cc] 26)).alloc (.cells #[.int .i64 (k : Int), .int .u64 z0, .int .u64 z1, .int .u64 z2, .int .u64 z3, .int .u64 z4, .int .u64 z5, .int .u64 z6, .int .u64 z7, .slice MA mn mc, .slice OA on occ] 45)).alloc (.cells #[.int .i64 0, .int .u64 0, .int .u64 0, .int .u64 0, .int .u64 0, .int .u64 0, .int .u64 0, .int .u64 0, .int .u64 0, .slice none 0 0, .slice none 0 0] 45)) = w3 at *
  have j0 := cells_below HB3.out HJ.out.1 hbc
  have j1 := cells_below HB3.out HJ.out.2.1 hbc
  have j2 := cells_below HB3.out HJ.out.2.2.1 hbc
  have j3 := cells_below HB3.out HJ.out.2.2.2.1 hbc
  have j4 := cells_below HB3.out HJ.out.2.2.2.2 hbc
  have q5 := row_cell H3.out.1 5
  have x0 := row_cell H3.out.2.1 0
  simp at q5 x0
  go_upto_region 2 with (fail)
  clear j0 j1 j2 j3 j4 q5 x0 hki
  have hz6 : (w3.alloc (.cells #[.int .i64 0, .int .i64 a, .int .i64 b, .int .i64 c, .int .u64 m] 59)).heap.size = w.heap.size + 4 := by have := HZ3.out; simp; omega
  have hb6 := Below.box w3 (.cells #[.int .i64 0, .int .i64 a, .int .i64 b, .int .i64 c, .int .u64 m] 59)
  have hB6 : Below w.heap.size w (w3.alloc (.cells #[.int .i64 0, .int .i64 a, .int .i64 b, .int .i64 c, .int .u64 m] 59)) := HB3.out.trans (hb6.mono HB3.out.size)
  have h40 := (hb6.block w.heap.size (by have := HZ3.out; omega)).trans H3.out.1
  have h41 := (hb6.block (w.heap.size + 1) (by have := HZ3.out; omega)).trans H3.out.2.1
  have h42 := (hb6.block (w.heap.size + 1 + 1) (by have := HZ3.out; omega)).trans H3.out.2.2
  have h43 : (w3.alloc (.cells #[.int .i64 0, .int .i64 a, .int .i64 b, .int .i64 c, .int .u64 m] 59)).heap[w3.heap.size]? = some (.cells #[.int .i64 0, .int .i64 a, .int .i64 b, .int .i64 c, .int .u64 m] 59 (0, 0)) := heap_newM rfl
  have hw3 : w3.heap.size = w.heap.size + 1 + 1 + 1 := HZ3.out
  rw [hw3] at h43 ⊢
  have H4 := Lib.hid (And.intro h40 (And.intro h41 (And.intro h42 h43)))
  have HB := Lib.hid hB6
  have HZ := Lib.hid hz6
  clear h40 h41 h42 h43 hB6 hb6 hz6 hw3
  generalize w3.alloc (.cells #[.int .i64 0, .int .i64 a, .int .i64 b, .int .i64 c, .int .u64 m] 59) = w6 at *
  have i0 := row_cell H4.out.2.2.2 0
  have i1 := row_cell H4.out.2.2.2 1
  have i2 := row_cell H4.out.2.2.2 2
  have i3 := row_cell H4.out.2.2.2 3
  have i4 := row_cell H4.out.2.2.2 4
  simp at i0 i1 i2 i3 i4
  have x0 := row_cell H4.out.2.1 0
  have x1 := row_cell H4.out.2.1 1
  have x2 := row_cell H4.out.2.1 2
  have x3 := row_cell H4.out.2.1 3
  have x4 := row_cell H4.out.2.1 4
  have x5 := row_cell H4.out.2.1 5
  have x6 := row_cell H4.out.2.1 6
  have x7 := row_cell H4.out.2.1 7
  have x8 := row_cell H4.out.2.1 8
  have x9 := row_cell H4.out.2.1 9
  have x10 := row_cell H4.out.2.1 10
  simp at x0 x1 x2 x3 x4 x5 x6 x7 x8 x9 x10
  have h1c : (#[.int .i64 (k : Int), .int .u64 z0, .int .u64 z1, .int .u64 z2, .int .u64 z3, .int .u64 z4, .int .u64 z5, .int .u64 z6, .int .u64 z7, .slice MA mn mc, .slice OA on occ] : Array Value).all (·.oneCell') = true := by simp [Value.oneCell']
  have H1C := Lib.hid h1c
  clear h1c
  go_wp2_with (with_reducible refine store_r (.tmp 6) _ (w.heap.size + 1 + 1) _ #[.int .i64 (k : Int), .int .u64 z0, .int .u64 z1, .int .u64 z2, .int .u64 z3, .int .u64 z4, .int .u64 z5, .int .u64 z6, .int .u64 z7, .slice MA mn mc, .slice OA on occ] H4.out.2.2.1 rfl rfl rfl rfl rfl rfl H1C.out ?_)
  refine ret_r2 (w.heap.size + 1 + 1) #[.int .i64 (k : Int), .int .u64 z0, .int .u64 z1, .int .u64 z2, .int .u64 z3, .int .u64 z4, .int .u64 z5, .int .u64 z6, .int .u64 z7, .slice MA mn mc, .slice OA on occ] (.int .i64 1) (setRow_heap _ _ _ _ _ _ H4.out.2.2.1) rfl rfl rfl rfl rfl ?_
  exact ⟨rfl, below_setRowM HB.out (by omega) _⟩

set_option maxRecDepth 20000 in
set_option maxHeartbeats 6400000 in
theorem rstep_end25 (mem stk inp : Int) (Ad : Option Addr) (ld cd : Nat) (Af : Option Addr) (lf cf bc oc lc cc : Nat) (Ai : Option Addr) (li ci k : Nat) (a b c m : Int) (z0 z1 z2 z3 z4 z5 z6 z7 : Int) (MA : Option Addr) (mn mc : Nat) (OA : Option Addr) (on occ : Nat) (w : World) (hk : k < lc) (hbc : bc < w.heap.size) (hins : InsAt w bc (oc + k * 5) ⟨25, a, b, c, m⟩) :
    Calls Tryd.prog 20 #[.agg #[.int .i64 mem, .int .i64 stk, .int .i64 inp, .slice Ad ld cd, .slice Af lf cf, .slice (some ⟨bc, oc, none⟩) lc cc], .slice Ai li ci, .agg #[.int .i64 (k : Int), .int .u64 z0, .int .u64 z1, .int .u64 z2, .int .u64 z3, .int .u64 z4, .int .u64 z5, .int .u64 z6, .int .u64 z7, .slice MA mn mc, .slice OA on occ]] w fun e w' => e = .returned (.tuple #[.agg #[.int .i64 (k : Int), .int .u64 z0, .int .u64 z1, .int .u64 z2, .int .u64 z3, .int .u64 z4, .int .u64 z5, .int .u64 z6, .int .u64 z7, .slice MA mn mc, .slice OA on occ], .int .i64 6]) ∧ Below w.heap.size w w' := by
  have h3 := three w (.cells #[.int .i64 mem, .int .i64 stk, .int .i64 inp, .slice Ad ld cd, .slice Af lf cf, .slice (some ⟨bc, oc, none⟩) lc cc] 26) (.cells #[.int .i64 (k : Int), .int .u64 z0, .int .u64 z1, .int .u64 z2, .int .u64 z3, .int .u64 z4, .int .u64 z5, .int .u64 z6, .int .u64 z7, .slice MA mn mc, .slice OA on occ] 45) (.cells #[.int .i64 0, .int .u64 0, .int .u64 0, .int .u64 0, .int .u64 0, .int .u64 0, .int .u64 0, .int .u64 0, .int .u64 0, .slice none 0 0, .slice none 0 0] 45)
  have hB : Below w.heap.size w (((w.alloc (.cells #[.int .i64 mem, .int .i64 stk, .int .i64 inp, .slice Ad ld cd, .slice Af lf cf, .slice (some ⟨bc, oc, none⟩) lc cc] 26)).alloc (.cells #[.int .i64 (k : Int), .int .u64 z0, .int .u64 z1, .int .u64 z2, .int .u64 z3, .int .u64 z4, .int .u64 z5, .int .u64 z6, .int .u64 z7, .slice MA mn mc, .slice OA on occ] 45)).alloc (.cells #[.int .i64 0, .int .u64 0, .int .u64 0, .int .u64 0, .int .u64 0, .int .u64 0, .int .u64 0, .int .u64 0, .int .u64 0, .slice none 0 0, .slice none 0 0] 45)) := (((Below.refl _ _).alloc (Nat.le_refl _) _).alloc (by simp) _).alloc (by simp; omega) _
  have hz : (((w.alloc (.cells #[.int .i64 mem, .int .i64 stk, .int .i64 inp, .slice Ad ld cd, .slice Af lf cf, .slice (some ⟨bc, oc, none⟩) lc cc] 26)).alloc (.cells #[.int .i64 (k : Int), .int .u64 z0, .int .u64 z1, .int .u64 z2, .int .u64 z3, .int .u64 z4, .int .u64 z5, .int .u64 z6, .int .u64 z7, .slice MA mn mc, .slice OA on occ] 45)).alloc (.cells #[.int .i64 0, .int .u64 0, .int .u64 0, .int .u64 0, .int .u64 0, .int .u64 0, .int .u64 0, .int .u64 0, .int .u64 0, .slice none 0 0, .slice none 0 0] 45)).heap.size = w.heap.size + 3 := by simp
  obtain ⟨j0, j1, j2, j3, j4⟩ := hins
  simp only at j0 j1 j2 j3 j4
  have hki : (k : Int) < lc := by omega
  have H3 := Lib.hid h3
  have HB3 := Lib.hid hB
  have HZ3 := Lib.hid hz
  have HJ := Lib.hid (And.intro j0 (And.intro j1 (And.intro j2 (And.intro j3 j4))))
  clear h3 hB hz j0 j1 j2 j3 j4
  go_enter Tryd.func20, Tryd.ntmps20
  go_upto_region 1 with (fail)
  generalize (((w.alloc (.cells #[.int .i64 mem, .int .i64 stk, .int .i64 inp, .slice Ad ld cd, .slice Af lf cf, .slice (some ⟨bc, oc, none⟩) lc cc] 26)).alloc (.cells #[.int .i64 (k : Int), .int .u64 z0, .int .u64 z1, .int .u64 z2, .int .u64 z3, .int .u64 z4, .int .u64 z5, .int .u64 z6, .int .u64 z7, .slice MA mn mc, .slice OA on occ] 45)).alloc (.cells #[.int .i64 0, .int .u64 0, .int .u64 0, .int .u64 0, .int .u64 0, .int .u64 0, .int .u64 0, .int .u64 0, .int .u64 0, .slice none 0 0, .slice none 0 0] 45)) = w3 at *
  have j0 := cells_below HB3.out HJ.out.1 hbc
  have j1 := cells_below HB3.out HJ.out.2.1 hbc
  have j2 := cells_below HB3.out HJ.out.2.2.1 hbc
  have j3 := cells_below HB3.out HJ.out.2.2.2.1 hbc
  have j4 := cells_below HB3.out HJ.out.2.2.2.2 hbc
  have q5 := row_cell H3.out.1 5
  have x0 := row_cell H3.out.2.1 0
  simp at q5 x0
  go_upto_region 2 with (fail)
  clear j0 j1 j2 j3 j4 q5 x0 hki
  have hz6 : (w3.alloc (.cells #[.int .i64 25, .int .i64 a, .int .i64 b, .int .i64 c, .int .u64 m] 59)).heap.size = w.heap.size + 4 := by have := HZ3.out; simp; omega
  have hb6 := Below.box w3 (.cells #[.int .i64 25, .int .i64 a, .int .i64 b, .int .i64 c, .int .u64 m] 59)
  have hB6 : Below w.heap.size w (w3.alloc (.cells #[.int .i64 25, .int .i64 a, .int .i64 b, .int .i64 c, .int .u64 m] 59)) := HB3.out.trans (hb6.mono HB3.out.size)
  have h40 := (hb6.block w.heap.size (by have := HZ3.out; omega)).trans H3.out.1
  have h41 := (hb6.block (w.heap.size + 1) (by have := HZ3.out; omega)).trans H3.out.2.1
  have h42 := (hb6.block (w.heap.size + 1 + 1) (by have := HZ3.out; omega)).trans H3.out.2.2
  have h43 : (w3.alloc (.cells #[.int .i64 25, .int .i64 a, .int .i64 b, .int .i64 c, .int .u64 m] 59)).heap[w3.heap.size]? = some (.cells #[.int .i64 25, .int .i64 a, .int .i64 b, .int .i64 c, .int .u64 m] 59 (0, 0)) := heap_newM rfl
  have hw3 : w3.heap.size = w.heap.size + 1 + 1 + 1 := HZ3.out
  rw [hw3] at h43 ⊢
  have H4 := Lib.hid (And.intro h40 (And.intro h41 (And.intro h42 h43)))
  have HB := Lib.hid hB6
  have HZ := Lib.hid hz6
  clear h40 h41 h42 h43 hB6 hb6 hz6 hw3
  generalize w3.alloc (.cells #[.int .i64 25, .int .i64 a, .int .i64 b, .int .i64 c, .int .u64 m] 59) = w6 at *
  have i0 := row_cell H4.out.2.2.2 0
  have i1 := row_cell H4.out.2.2.2 1
  have i2 := row_cell H4.out.2.2.2 2
  have i3 := row_cell H4.out.2.2.2 3
  have i4 := row_cell H4.out.2.2.2 4
  simp at i0 i1 i2 i3 i4
  have x0 := row_cell H4.out.2.1 0
  have x1 := row_cell H4.out.2.1 1
  have x2 := row_cell H4.out.2.1 2
  have x3 := row_cell H4.out.2.1 3
  have x4 := row_cell H4.out.2.1 4
  have x5 := row_cell H4.out.2.1 5
  have x6 := row_cell H4.out.2.1 6
  have x7 := row_cell H4.out.2.1 7
  have x8 := row_cell H4.out.2.1 8
  have x9 := row_cell H4.out.2.1 9
  have x10 := row_cell H4.out.2.1 10
  simp at x0 x1 x2 x3 x4 x5 x6 x7 x8 x9 x10
  have h1c : (#[.int .i64 (k : Int), .int .u64 z0, .int .u64 z1, .int .u64 z2, .int .u64 z3, .int .u64 z4, .int .u64 z5, .int .u64 z6, .int .u64 z7, .slice MA mn mc, .slice OA on occ] : Array Value).all (·.oneCell') = true := by simp [Value.oneCell']
  have H1C := Lib.hid h1c
  clear h1c
  go_wp2_with (with_reducible refine store_r (.tmp 6) _ (w.heap.size + 1 + 1) _ #[.int .i64 (k : Int), .int .u64 z0, .int .u64 z1, .int .u64 z2, .int .u64 z3, .int .u64 z4, .int .u64 z5, .int .u64 z6, .int .u64 z7, .slice MA mn mc, .slice OA on occ] H4.out.2.2.1 rfl rfl rfl rfl rfl rfl H1C.out ?_)
  refine ret_r2 (w.heap.size + 1 + 1) #[.int .i64 (k : Int), .int .u64 z0, .int .u64 z1, .int .u64 z2, .int .u64 z3, .int .u64 z4, .int .u64 z5, .int .u64 z6, .int .u64 z7, .slice MA mn mc, .slice OA on occ] (.int .i64 6) (setRow_heap _ _ _ _ _ _ H4.out.2.2.1) rfl rfl rfl rfl rfl ?_
  exact ⟨rfl, below_setRowM HB.out (by omega) _⟩

set_option maxRecDepth 20000 in
set_option maxHeartbeats 6400000 in
theorem rstep_sub17 (mem stk inp : Int) (Ad : Option Addr) (ld cd : Nat) (Af : Option Addr) (lf cf bc oc lc cc : Nat) (Ai : Option Addr) (li ci k : Nat) (a b c m : Int) (mm op : List Int) (s' : Mc.St) (en : Int) (z0 z1 z2 z3 z4 z5 z6 z7 : Int) (MA : Option Addr) (mn mc : Nat) (OA : Option Addr) (on occ : Nat) (w : World) (hk : k < lc) (hbc : bc < w.heap.size) (hins : InsAt w bc (oc + k * 5) ⟨17, a, b, c, m⟩) (hs : ∀ W, Below w.heap.size w W → Calls Tryd.prog 38 #[.agg #[.int .i64 17, .int .i64 a, .int .i64 b, .int .i64 c, .int .u64 m], .agg #[.int .i64 (k : Int), .int .u64 z0, .int .u64 z1, .int .u64 z2, .int .u64 z3, .int .u64 z4, .int .u64 z5, .int .u64 z6, .int .u64 z7, .slice MA mn mc, .slice OA on occ]] W (SubR ⟨(k : Int), [z0, z1, z2, z3, z4, z5, z6, z7], mm, op⟩ s' MA mc OA occ en W)) :
    Calls Tryd.prog 20 #[.agg #[.int .i64 mem, .int .i64 stk, .int .i64 inp, .slice Ad ld cd, .slice Af lf cf, .slice (some ⟨bc, oc, none⟩) lc cc], .slice Ai li ci, .agg #[.int .i64 (k : Int), .int .u64 z0, .int .u64 z1, .int .u64 z2, .int .u64 z3, .int .u64 z4, .int .u64 z5, .int .u64 z6, .int .u64 z7, .slice MA mn mc, .slice OA on occ]] w fun e w' => SubR ⟨(k : Int), [z0, z1, z2, z3, z4, z5, z6, z7], mm, op⟩ s' MA mc OA occ en w e w' := by
  have HS := Lib.hid hs
  clear hs
  have h3 := three w (.cells #[.int .i64 mem, .int .i64 stk, .int .i64 inp, .slice Ad ld cd, .slice Af lf cf, .slice (some ⟨bc, oc, none⟩) lc cc] 26) (.cells #[.int .i64 (k : Int), .int .u64 z0, .int .u64 z1, .int .u64 z2, .int .u64 z3, .int .u64 z4, .int .u64 z5, .int .u64 z6, .int .u64 z7, .slice MA mn mc, .slice OA on occ] 45) (.cells #[.int .i64 0, .int .u64 0, .int .u64 0, .int .u64 0, .int .u64 0, .int .u64 0, .int .u64 0, .int .u64 0, .int .u64 0, .slice none 0 0, .slice none 0 0] 45)
  have hB : Below w.heap.size w (((w.alloc (.cells #[.int .i64 mem, .int .i64 stk, .int .i64 inp, .slice Ad ld cd, .slice Af lf cf, .slice (some ⟨bc, oc, none⟩) lc cc] 26)).alloc (.cells #[.int .i64 (k : Int), .int .u64 z0, .int .u64 z1, .int .u64 z2, .int .u64 z3, .int .u64 z4, .int .u64 z5, .int .u64 z6, .int .u64 z7, .slice MA mn mc, .slice OA on occ] 45)).alloc (.cells #[.int .i64 0, .int .u64 0, .int .u64 0, .int .u64 0, .int .u64 0, .int .u64 0, .int .u64 0, .int .u64 0, .int .u64 0, .slice none 0 0, .slice none 0 0] 45)) := (((Below.refl _ _).alloc (Nat.le_refl _) _).alloc (by simp) _).alloc (by simp; omega) _
  have hz : (((w.alloc (.cells #[.int .i64 mem, .int .i64 stk, .int .i64 inp, .slice Ad ld cd, .slice Af lf cf, .slice (some ⟨bc, oc, none⟩) lc cc] 26)).alloc (.cells #[.int .i64 (k : Int), .int .u64 z0, .int .u64 z1, .int .u64 z2, .int .u64 z3, .int .u64 z4, .int .u64 z5, .int .u64 z6, .int .u64 z7, .slice MA mn mc, .slice OA on occ] 45)).alloc (.cells #[.int .i64 0, .int .u64 0, .int .u64 0, .int .u64 0, .int .u64 0, .int .u64 0, .int .u64 0, .int .u64 0, .int .u64 0, .slice none 0 0, .slice none 0 0] 45)).heap.size = w.heap.size + 3 := by simp
  obtain ⟨j0, j1, j2, j3, j4⟩ := hins
  simp only at j0 j1 j2 j3 j4
  have hki : (k : Int) < lc := by omega
  have H3 := Lib.hid h3
  have HB3 := Lib.hid hB
  have HZ3 := Lib.hid hz
  have HJ := Lib.hid (And.intro j0 (And.intro j1 (And.intro j2 (And.intro j3 j4))))
  clear h3 hB hz j0 j1 j2 j3 j4
  go_enter Tryd.func20, Tryd.ntmps20
  go_upto_region 1 with (fail)
  generalize (((w.alloc (.cells #[.int .i64 mem, .int .i64 stk, .int .i64 inp, .slice Ad ld cd, .slice Af lf cf, .slice (some ⟨bc, oc, none⟩) lc cc] 26)).alloc (.cells #[.int .i64 (k : Int), .int .u64 z0, .int .u64 z1, .int .u64 z2, .int .u64 z3, .int .u64 z4, .int .u64 z5, .int .u64 z6, .int .u64 z7, .slice MA mn mc, .slice OA on occ] 45)).alloc (.cells #[.int .i64 0, .int .u64 0, .int .u64 0, .int .u64 0, .int .u64 0, .int .u64 0, .int .u64 0, .int .u64 0, .int .u64 0, .slice none 0 0, .slice none 0 0] 45)) = w3 at *
  have j0 := cells_below HB3.out HJ.out.1 hbc
  have j1 := cells_below HB3.out HJ.out.2.1 hbc
  have j2 := cells_below HB3.out HJ.out.2.2.1 hbc
  have j3 := cells_below HB3.out HJ.out.2.2.2.1 hbc
  have j4 := cells_below HB3.out HJ.out.2.2.2.2 hbc
  have q5 := row_cell H3.out.1 5
  have x0 := row_cell H3.out.2.1 0
  simp at q5 x0
  go_upto_region 2 with (fail)
  clear j0 j1 j2 j3 j4 q5 x0 hki
  have hz6 : (w3.alloc (.cells #[.int .i64 17, .int .i64 a, .int .i64 b, .int .i64 c, .int .u64 m] 59)).heap.size = w.heap.size + 4 := by have := HZ3.out; simp; omega
  have hb6 := Below.box w3 (.cells #[.int .i64 17, .int .i64 a, .int .i64 b, .int .i64 c, .int .u64 m] 59)
  have hB6 : Below w.heap.size w (w3.alloc (.cells #[.int .i64 17, .int .i64 a, .int .i64 b, .int .i64 c, .int .u64 m] 59)) := HB3.out.trans (hb6.mono HB3.out.size)
  have h40 := (hb6.block w.heap.size (by have := HZ3.out; omega)).trans H3.out.1
  have h41 := (hb6.block (w.heap.size + 1) (by have := HZ3.out; omega)).trans H3.out.2.1
  have h42 := (hb6.block (w.heap.size + 1 + 1) (by have := HZ3.out; omega)).trans H3.out.2.2
  have h43 : (w3.alloc (.cells #[.int .i64 17, .int .i64 a, .int .i64 b, .int .i64 c, .int .u64 m] 59)).heap[w3.heap.size]? = some (.cells #[.int .i64 17, .int .i64 a, .int .i64 b, .int .i64 c, .int .u64 m] 59 (0, 0)) := heap_newM rfl
  have hw3 : w3.heap.size = w.heap.size + 1 + 1 + 1 := HZ3.out
  rw [hw3] at h43 ⊢
  have H4 := Lib.hid (And.intro h40 (And.intro h41 (And.intro h42 h43)))
  have HB := Lib.hid hB6
  have HZ := Lib.hid hz6
  clear h40 h41 h42 h43 hB6 hb6 hz6 hw3
  generalize w3.alloc (.cells #[.int .i64 17, .int .i64 a, .int .i64 b, .int .i64 c, .int .u64 m] 59) = w6 at *
  have i0 := row_cell H4.out.2.2.2 0
  have i1 := row_cell H4.out.2.2.2 1
  have i2 := row_cell H4.out.2.2.2 2
  have i3 := row_cell H4.out.2.2.2 3
  have i4 := row_cell H4.out.2.2.2 4
  simp at i0 i1 i2 i3 i4
  have x0 := row_cell H4.out.2.1 0
  have x1 := row_cell H4.out.2.1 1
  have x2 := row_cell H4.out.2.1 2
  have x3 := row_cell H4.out.2.1 3
  have x4 := row_cell H4.out.2.1 4
  have x5 := row_cell H4.out.2.1 5
  have x6 := row_cell H4.out.2.1 6
  have x7 := row_cell H4.out.2.1 7
  have x8 := row_cell H4.out.2.1 8
  have x9 := row_cell H4.out.2.1 9
  have x10 := row_cell H4.out.2.1 10
  simp at x0 x1 x2 x3 x4 x5 x6 x7 x8 x9 x10
  go_wp2_with fail
  refine (HS.out _ HB.out).mono ?_
  rintro e v ⟨V, rfl, hres, hb⟩
  have HX2 := Lib.hid ((hb.block _ (by have := HZ.out; omega)).trans H4.out.2.2.1)
  have HBV := Lib.hid (HB.out.trans (hb.mono HB.out.size))
  have HR := Lib.hid hres
  have HWZ := Lib.hid (show w.heap.size + 4 ≤ w6.heap.size by have := HZ.out; omega)
  clear hb hres x0 x1 x2 x3 x4 x5 x6 x7 x8 x9 x10 i0 i1 i2 i3 i4
  go_wp2_with (with_reducible refine store_r (.tmp 6) (.tmp 46) (w.heap.size + 1 + 1) _ V HX2.out rfl rfl rfl rfl rfl HR.out.sz HR.out.one ?_)
  refine ret_r2 (w.heap.size + 1 + 1) V (.int .i64 en) (setRow_heap _ _ _ _ _ _ HX2.out) HR.out.sz rfl rfl rfl rfl ?_
  exact ⟨V, rfl, HR.out.keep (by have := HWZ.out; omega) (fun k hk => setRow_other _ _ _ _ (by have := HWZ.out; omega)), below_setRowM HBV.out (by omega) _⟩

set_option maxRecDepth 20000 in
set_option maxHeartbeats 6400000 in
theorem rstep_sub18 (mem stk inp : Int) (Ad : Option Addr) (ld cd : Nat) (Af : Option Addr) (lf cf bc oc lc cc : Nat) (Ai : Option Addr) (li ci k : Nat) (a b c m : Int) (mm op : List Int) (s' : Mc.St) (en : Int) (z0 z1 z2 z3 z4 z5 z6 z7 : Int) (MA : Option Addr) (mn mc : Nat) (OA : Option Addr) (on occ : Nat) (w : World) (hk : k < lc) (hbc : bc < w.heap.size) (hins : InsAt w bc (oc + k * 5) ⟨18, a, b, c, m⟩) (hs : ∀ W, Below w.heap.size w W → Calls Tryd.prog 38 #[.agg #[.int .i64 18, .int .i64 a, .int .i64 b, .int .i64 c, .int .u64 m], .agg #[.int .i64 (k : Int), .int .u64 z0, .int .u64 z1, .int .u64 z2, .int .u64 z3, .int .u64 z4, .int .u64 z5, .int .u64 z6, .int .u64 z7, .slice MA mn mc, .slice OA on occ]] W (SubR ⟨(k : Int), [z0, z1, z2, z3, z4, z5, z6, z7], mm, op⟩ s' MA mc OA occ en W)) :
    Calls Tryd.prog 20 #[.agg #[.int .i64 mem, .int .i64 stk, .int .i64 inp, .slice Ad ld cd, .slice Af lf cf, .slice (some ⟨bc, oc, none⟩) lc cc], .slice Ai li ci, .agg #[.int .i64 (k : Int), .int .u64 z0, .int .u64 z1, .int .u64 z2, .int .u64 z3, .int .u64 z4, .int .u64 z5, .int .u64 z6, .int .u64 z7, .slice MA mn mc, .slice OA on occ]] w fun e w' => SubR ⟨(k : Int), [z0, z1, z2, z3, z4, z5, z6, z7], mm, op⟩ s' MA mc OA occ en w e w' := by
  have HS := Lib.hid hs
  clear hs
  have h3 := three w (.cells #[.int .i64 mem, .int .i64 stk, .int .i64 inp, .slice Ad ld cd, .slice Af lf cf, .slice (some ⟨bc, oc, none⟩) lc cc] 26) (.cells #[.int .i64 (k : Int), .int .u64 z0, .int .u64 z1, .int .u64 z2, .int .u64 z3, .int .u64 z4, .int .u64 z5, .int .u64 z6, .int .u64 z7, .slice MA mn mc, .slice OA on occ] 45) (.cells #[.int .i64 0, .int .u64 0, .int .u64 0, .int .u64 0, .int .u64 0, .int .u64 0, .int .u64 0, .int .u64 0, .int .u64 0, .slice none 0 0, .slice none 0 0] 45)
  have hB : Below w.heap.size w (((w.alloc (.cells #[.int .i64 mem, .int .i64 stk, .int .i64 inp, .slice Ad ld cd, .slice Af lf cf, .slice (some ⟨bc, oc, none⟩) lc cc] 26)).alloc (.cells #[.int .i64 (k : Int), .int .u64 z0, .int .u64 z1, .int .u64 z2, .int .u64 z3, .int .u64 z4, .int .u64 z5, .int .u64 z6, .int .u64 z7, .slice MA mn mc, .slice OA on occ] 45)).alloc (.cells #[.int .i64 0, .int .u64 0, .int .u64 0, .int .u64 0, .int .u64 0, .int .u64 0, .int .u64 0, .int .u64 0, .int .u64 0, .slice none 0 0, .slice none 0 0] 45)) := (((Below.refl _ _).alloc (Nat.le_refl _) _).alloc (by simp) _).alloc (by simp; omega) _
  have hz : (((w.alloc (.cells #[.int .i64 mem, .int .i64 stk, .int .i64 inp, .slice Ad ld cd, .slice Af lf cf, .slice (some ⟨bc, oc, none⟩) lc cc] 26)).alloc (.cells #[.int .i64 (k : Int), .int .u64 z0, .int .u64 z1, .int .u64 z2, .int .u64 z3, .int .u64 z4, .int .u64 z5, .int .u64 z6, .int .u64 z7, .slice MA mn mc, .slice OA on occ] 45)).alloc (.cells #[.int .i64 0, .int .u64 0, .int .u64 0, .int .u64 0, .int .u64 0, .int .u64 0, .int .u64 0, .int .u64 0, .int .u64 0, .slice none 0 0, .slice none 0 0] 45)).heap.size = w.heap.size + 3 := by simp
  obtain ⟨j0, j1, j2, j3, j4⟩ := hins
  simp only at j0 j1 j2 j3 j4
  have hki : (k : Int) < lc := by omega
  have H3 := Lib.hid h3
  have HB3 := Lib.hid hB
  have HZ3 := Lib.hid hz
  have HJ := Lib.hid (And.intro j0 (And.intro j1 (And.intro j2 (And.intro j3 j4))))
  clear h3 hB hz j0 j1 j2 j3 j4
  go_enter Tryd.func20, Tryd.ntmps20
  go_upto_region 1 with (fail)
  generalize (((w.alloc (.cells #[.int .i64 mem, .int .i64 stk, .int .i64 inp, .slice Ad ld cd, .slice Af lf cf, .slice (some ⟨bc, oc, none⟩) lc cc] 26)).alloc (.cells #[.int .i64 (k : Int), .int .u64 z0, .int .u64 z1, .int .u64 z2, .int .u64 z3, .int .u64 z4, .int .u64 z5, .int .u64 z6, .int .u64 z7, .slice MA mn mc, .slice OA on occ] 45)).alloc (.cells #[.int .i64 0, .int .u64 0, .int .u64 0, .int .u64 0, .int .u64 0, .int .u64 0, .int .u64 0, .int .u64 0, .int .u64 0, .slice none 0 0, .slice none 0 0] 45)) = w3 at *
  have j0 := cells_below HB3.out HJ.out.1 hbc
  have j1 := cells_below HB3.out HJ.out.2.1 hbc
  have j2 := cells_below HB3.out HJ.out.2.2.1 hbc
  have j3 := cells_below HB3.out HJ.out.2.2.2.1 hbc
  have j4 := cells_below HB3.out HJ.out.2.2.2.2 hbc
  have q5 := row_cell H3.out.1 5
  have x0 := row_cell H3.out.2.1 0
  simp at q5 x0
  go_upto_region 2 with (fail)
  clear j0 j1 j2 j3 j4 q5 x0 hki
  have hz6 : (w3.alloc (.cells #[.int .i64 18, .int .i64 a, .int .i64 b, .int .i64 c, .int .u64 m] 59)).heap.size = w.heap.size + 4 := by have := HZ3.out; simp; omega
  have hb6 := Below.box w3 (.cells #[.int .i64 18, .int .i64 a, .int .i64 b, .int .i64 c, .int .u64 m] 59)
  have hB6 : Below w.heap.size w (w3.alloc (.cells #[.int .i64 18, .int .i64 a, .int .i64 b, .int .i64 c, .int .u64 m] 59)) := HB3.out.trans (hb6.mono HB3.out.size)
  have h40 := (hb6.block w.heap.size (by have := HZ3.out; omega)).trans H3.out.1
  have h41 := (hb6.block (w.heap.size + 1) (by have := HZ3.out; omega)).trans H3.out.2.1
  have h42 := (hb6.block (w.heap.size + 1 + 1) (by have := HZ3.out; omega)).trans H3.out.2.2
  have h43 : (w3.alloc (.cells #[.int .i64 18, .int .i64 a, .int .i64 b, .int .i64 c, .int .u64 m] 59)).heap[w3.heap.size]? = some (.cells #[.int .i64 18, .int .i64 a, .int .i64 b, .int .i64 c, .int .u64 m] 59 (0, 0)) := heap_newM rfl
  have hw3 : w3.heap.size = w.heap.size + 1 + 1 + 1 := HZ3.out
  rw [hw3] at h43 ⊢
  have H4 := Lib.hid (And.intro h40 (And.intro h41 (And.intro h42 h43)))
  have HB := Lib.hid hB6
  have HZ := Lib.hid hz6
  clear h40 h41 h42 h43 hB6 hb6 hz6 hw3
  generalize w3.alloc (.cells #[.int .i64 18, .int .i64 a, .int .i64 b, .int .i64 c, .int .u64 m] 59) = w6 at *
  have i0 := row_cell H4.out.2.2.2 0
  have i1 := row_cell H4.out.2.2.2 1
  have i2 := row_cell H4.out.2.2.2 2
  have i3 := row_cell H4.out.2.2.2 3
  have i4 := row_cell H4.out.2.2.2 4
  simp at i0 i1 i2 i3 i4
  have x0 := row_cell H4.out.2.1 0
  have x1 := row_cell H4.out.2.1 1
  have x2 := row_cell H4.out.2.1 2
  have x3 := row_cell H4.out.2.1 3
  have x4 := row_cell H4.out.2.1 4
  have x5 := row_cell H4.out.2.1 5
  have x6 := row_cell H4.out.2.1 6
  have x7 := row_cell H4.out.2.1 7
  have x8 := row_cell H4.out.2.1 8
  have x9 := row_cell H4.out.2.1 9
  have x10 := row_cell H4.out.2.1 10
  simp at x0 x1 x2 x3 x4 x5 x6 x7 x8 x9 x10
  go_wp2_with fail
  refine (HS.out _ HB.out).mono ?_
  rintro e v ⟨V, rfl, hres, hb⟩
  have HX2 := Lib.hid ((hb.block _ (by have := HZ.out; omega)).trans H4.out.2.2.1)
  have HBV := Lib.hid (HB.out.trans (hb.mono HB.out.size))
  have HR := Lib.hid hres
  have HWZ := Lib.hid (show w.heap.size + 4 ≤ w6.heap.size by have := HZ.out; omega)
  clear hb hres x0 x1 x2 x3 x4 x5 x6 x7 x8 x9 x10 i0 i1 i2 i3 i4
  go_wp2_with (with_reducible refine store_r (.tmp 6) (.tmp 46) (w.heap.size + 1 + 1) _ V HX2.out rfl rfl rfl rfl rfl HR.out.sz HR.out.one ?_)
  refine ret_r2 (w.heap.size + 1 + 1) V (.int .i64 en) (setRow_heap _ _ _ _ _ _ HX2.out) HR.out.sz rfl rfl rfl rfl ?_
  exact ⟨V, rfl, HR.out.keep (by have := HWZ.out; omega) (fun k hk => setRow_other _ _ _ _ (by have := HWZ.out; omega)), below_setRowM HBV.out (by omega) _⟩

set_option maxRecDepth 20000 in
set_option maxHeartbeats 6400000 in
theorem rstep_sub21 (mem stk inp : Int) (Ad : Option Addr) (ld cd : Nat) (Af : Option Addr) (lf cf bc oc lc cc : Nat) (Ai : Option Addr) (li ci k : Nat) (a b c m : Int) (mm op : List Int) (s' : Mc.St) (en : Int) (z0 z1 z2 z3 z4 z5 z6 z7 : Int) (MA : Option Addr) (mn mc : Nat) (OA : Option Addr) (on occ : Nat) (w : World) (hk : k < lc) (hbc : bc < w.heap.size) (hins : InsAt w bc (oc + k * 5) ⟨21, a, b, c, m⟩) (hs : ∀ W, Below w.heap.size w W → Calls Tryd.prog 39 #[.agg #[.int .i64 mem, .int .i64 stk, .int .i64 inp, .slice Ad ld cd, .slice Af lf cf, .slice (some ⟨bc, oc, none⟩) lc cc], .agg #[.int .i64 21, .int .i64 a, .int .i64 b, .int .i64 c, .int .u64 m], .agg #[.int .i64 (k : Int), .int .u64 z0, .int .u64 z1, .int .u64 z2, .int .u64 z3, .int .u64 z4, .int .u64 z5, .int .u64 z6, .int .u64 z7, .slice MA mn mc, .slice OA on occ]] W (SubR ⟨(k : Int), [z0, z1, z2, z3, z4, z5, z6, z7], mm, op⟩ s' MA mc OA occ en W)) :
    Calls Tryd.prog 20 #[.agg #[.int .i64 mem, .int .i64 stk, .int .i64 inp, .slice Ad ld cd, .slice Af lf cf, .slice (some ⟨bc, oc, none⟩) lc cc], .slice Ai li ci, .agg #[.int .i64 (k : Int), .int .u64 z0, .int .u64 z1, .int .u64 z2, .int .u64 z3, .int .u64 z4, .int .u64 z5, .int .u64 z6, .int .u64 z7, .slice MA mn mc, .slice OA on occ]] w fun e w' => SubR ⟨(k : Int), [z0, z1, z2, z3, z4, z5, z6, z7], mm, op⟩ s' MA mc OA occ en w e w' := by
  have HS := Lib.hid hs
  clear hs
  have h3 := three w (.cells #[.int .i64 mem, .int .i64 stk, .int .i64 inp, .slice Ad ld cd, .slice Af lf cf, .slice (some ⟨bc, oc, none⟩) lc cc] 26) (.cells #[.int .i64 (k : Int), .int .u64 z0, .int .u64 z1, .int .u64 z2, .int .u64 z3, .int .u64 z4, .int .u64 z5, .int .u64 z6, .int .u64 z7, .slice MA mn mc, .slice OA on occ] 45) (.cells #[.int .i64 0, .int .u64 0, .int .u64 0, .int .u64 0, .int .u64 0, .int .u64 0, .int .u64 0, .int .u64 0, .int .u64 0, .slice none 0 0, .slice none 0 0] 45)
  have hB : Below w.heap.size w (((w.alloc (.cells #[.int .i64 mem, .int .i64 stk, .int .i64 inp, .slice Ad ld cd, .slice Af lf cf, .slice (some ⟨bc, oc, none⟩) lc cc] 26)).alloc (.cells #[.int .i64 (k : Int), .int .u64 z0, .int .u64 z1, .int .u64 z2, .int .u64 z3, .int .u64 z4, .int .u64 z5, .int .u64 z6, .int .u64 z7, .slice MA mn mc, .slice OA on occ] 45)).alloc (.cells #[.int .i64 0, .int .u64 0, .int .u64 0, .int .u64 0, .int .u64 0, .int .u64 0, .int .u64 0, .int .u64 0, .int .u64 0, .slice none 0 0, .slice none 0 0] 45)) := (((Below.refl _ _).alloc (Nat.le_refl _) _).alloc (by simp) _).alloc (by simp; omega) _
  have hz : (((w.alloc (.cells #[.int .i64 mem, .int .i64 stk, .int .i64 inp, .slice Ad ld cd, .slice Af lf cf, .slice (some ⟨bc, oc, none⟩) lc cc] 26)).alloc (.cells #[.int .i64 (k : Int), .int .u64 z0, .int .u64 z1, .int .u64 z2, .int .u64 z3, .int .u64 z4, .int .u64 z5, .int .u64 z6, .int .u64 z7, .slice MA mn mc, .slice OA on occ] 45)).alloc (.cells #[.int .i64 0, .int .u64 0, .int .u64 0, .int .u64 0, .int .u64 0, .int .u64 0, .int .u64 0, .int .u64 0, .int .u64 0, .slice none 0 0, .slice none 0 0] 45)).heap.size = w.heap.size + 3 := by simp
  obtain ⟨j0, j1, j2, j3, j4⟩ := hins
  simp only at j0 j1 j2 j3 j4
  have hki : (k : Int) < lc := by omega
  have H3 := Lib.hid h3
  have HB3 := Lib.hid hB
  have HZ3 := Lib.hid hz
  have HJ := Lib.hid (And.intro j0 (And.intro j1 (And.intro j2 (And.intro j3 j4))))
  clear h3 hB hz j0 j1 j2 j3 j4
  go_enter Tryd.func20, Tryd.ntmps20
  go_upto_region 1 with (fail)
  generalize (((w.alloc (.cells #[.int .i64 mem, .int .i64 stk, .int .i64 inp, .slice Ad ld cd, .slice Af lf cf, .slice (some ⟨bc, oc, none⟩) lc cc] 26)).alloc (.cells #[.int .i64 (k : Int), .int .u64 z0, .int .u64 z1, .int .u64 z2, .int .u64 z3, .int .u64 z4, .int .u64 z5, .int .u64 z6, .int .u64 z7, .slice MA mn mc, .slice OA on occ] 45)).alloc (.cells #[.int .i64 0, .int .u64 0, .int .u64 0, .int .u64 0, .int .u64 0, .int .u64 0, .int .u64 0, .int .u64 0, .int .u64 0, .slice none 0 0, .slice none 0 0] 45)) = w3 at *
  have j0 := cells_below HB3.out HJ.out.1 hbc
  have j1 := cells_below HB3.out HJ.out.2.1 hbc
  have j2 := cells_below HB3.out HJ.out.2.2.1 hbc
  have j3 := cells_below HB3.out HJ.out.2.2.2.1 hbc
  have j4 := cells_below HB3.out HJ.out.2.2.2.2 hbc
  have q5 := row_cell H3.out.1 5
  have x0 := row_cell H3.out.2.1 0
  simp at q5 x0
  go_upto_region 2 with (fail)
  clear j0 j1 j2 j3 j4 q5 x0 hki
  have hz6 : (w3.alloc (.cells #[.int .i64 21, .int .i64 a, .int .i64 b, .int .i64 c, .int .u64 m] 59)).heap.size = w.heap.size + 4 := by have := HZ3.out; simp; omega
  have hb6 := Below.box w3 (.cells #[.int .i64 21, .int .i64 a, .int .i64 b, .int .i64 c, .int .u64 m] 59)
  have hB6 : Below w.heap.size w (w3.alloc (.cells #[.int .i64 21, .int .i64 a, .int .i64 b, .int .i64 c, .int .u64 m] 59)) := HB3.out.trans (hb6.mono HB3.out.size)
  have h40 := (hb6.block w.heap.size (by have := HZ3.out; omega)).trans H3.out.1
  have h41 := (hb6.block (w.heap.size + 1) (by have := HZ3.out; omega)).trans H3.out.2.1
  have h42 := (hb6.block (w.heap.size + 1 + 1) (by have := HZ3.out; omega)).trans H3.out.2.2
  have h43 : (w3.alloc (.cells #[.int .i64 21, .int .i64 a, .int .i64 b, .int .i64 c, .int .u64 m] 59)).heap[w3.heap.size]? = some (.cells #[.int .i64 21, .int .i64 a, .int .i64 b, .int .i64 c, .int .u64 m] 59 (0, 0)) := heap_newM rfl
  have hw3 : w3.heap.size = w.heap.size + 1 + 1 + 1 := HZ3.out
  rw [hw3] at h43 ⊢
  have H4 := Lib.hid (And.intro h40 (And.intro h41 (And.intro h42 h43)))
  have HB := Lib.hid hB6
  have HZ := Lib.hid hz6
  clear h40 h41 h42 h43 hB6 hb6 hz6 hw3
  generalize w3.alloc (.cells #[.int .i64 21, .int .i64 a, .int .i64 b, .int .i64 c, .int .u64 m] 59) = w6 at *
  have i0 := row_cell H4.out.2.2.2 0
  have i1 := row_cell H4.out.2.2.2 1
  have i2 := row_cell H4.out.2.2.2 2
  have i3 := row_cell H4.out.2.2.2 3
  have i4 := row_cell H4.out.2.2.2 4
  simp at i0 i1 i2 i3 i4
  have x0 := row_cell H4.out.2.1 0
  have x1 := row_cell H4.out.2.1 1
  have x2 := row_cell H4.out.2.1 2
  have x3 := row_cell H4.out.2.1 3
  have x4 := row_cell H4.out.2.1 4
  have x5 := row_cell H4.out.2.1 5
  have x6 := row_cell H4.out.2.1 6
  have x7 := row_cell H4.out.2.1 7
  have x8 := row_cell H4.out.2.1 8
  have x9 := row_cell H4.out.2.1 9
  have x10 := row_cell H4.out.2.1 10
  simp at x0 x1 x2 x3 x4 x5 x6 x7 x8 x9 x10
  have q0 := row_cell H4.out.1 0
  have q1 := row_cell H4.out.1 1
  have q2 := row_cell H4.out.1 2
  have q3 := row_cell H4.out.1 3
  have q4 := row_cell H4.out.1 4
  have q5 := row_cell H4.out.1 5
  simp at q0 q1 q2 q3 q4 q5
  go_wp2_with fail
  refine (HS.out _ HB.out).mono ?_
  rintro e v ⟨V, rfl, hres, hb⟩
  have HX2 := Lib.hid ((hb.block _ (by have := HZ.out; omega)).trans H4.out.2.2.1)
  have HBV := Lib.hid (HB.out.trans (hb.mono HB.out.size))
  have HR := Lib.hid hres
  have HWZ := Lib.hid (show w.heap.size + 4 ≤ w6.heap.size by have := HZ.out; omega)
  clear hb hres q0 q1 q2 q3 q4 q5 x0 x1 x2 x3 x4 x5 x6 x7 x8 x9 x10 i0 i1 i2 i3 i4
  go_wp2_with (with_reducible refine store_r (.tmp 6) (.tmp 91) (w.heap.size + 1 + 1) _ V HX2.out rfl rfl rfl rfl rfl HR.out.sz HR.out.one ?_)
  refine ret_r2 (w.heap.size + 1 + 1) V (.int .i64 en) (setRow_heap _ _ _ _ _ _ HX2.out) HR.out.sz rfl rfl rfl rfl ?_
  exact ⟨V, rfl, HR.out.keep (by have := HWZ.out; omega) (fun k hk => setRow_other _ _ _ _ (by have := HWZ.out; omega)), below_setRowM HBV.out (by omega) _⟩

set_option maxRecDepth 20000 in
set_option maxHeartbeats 6400000 in
theorem rstep_sub22 (mem stk inp : Int) (Ad : Option Addr) (ld cd : Nat) (Af : Option Addr) (lf cf bc oc lc cc : Nat) (Ai : Option Addr) (li ci k : Nat) (a b c m : Int) (mm op : List Int) (s' : Mc.St) (en : Int) (z0 z1 z2 z3 z4 z5 z6 z7 : Int) (MA : Option Addr) (mn mc : Nat) (OA : Option Addr) (on occ : Nat) (w : World) (hk : k < lc) (hbc : bc < w.heap.size) (hins : InsAt w bc (oc + k * 5) ⟨22, a, b, c, m⟩) (hs : ∀ W, Below w.heap.size w W → Calls Tryd.prog 39 #[.agg #[.int .i64 mem, .int .i64 stk, .int .i64 inp, .slice Ad ld cd, .slice Af lf cf, .slice (some ⟨bc, oc, none⟩) lc cc], .agg #[.int .i64 22, .int .i64 a, .int .i64 b, .int .i64 c, .int .u64 m], .agg #[.int .i64 (k : Int), .int .u64 z0, .int .u64 z1, .int .u64 z2, .int .u64 z3, .int .u64 z4, .int .u64 z5, .int .u64 z6, .int .u64 z7, .slice MA mn mc, .slice OA on occ]] W (SubR ⟨(k : Int), [z0, z1, z2, z3, z4, z5, z6, z7], mm, op⟩ s' MA mc OA occ en W)) :
    Calls Tryd.prog 20 #[.agg #[.int .i64 mem, .int .i64 stk, .int .i64 inp, .slice Ad ld cd, .slice Af lf cf, .slice (some ⟨bc, oc, none⟩) lc cc], .slice Ai li ci, .agg #[.int .i64 (k : Int), .int .u64 z0, .int .u64 z1, .int .u64 z2, .int .u64 z3, .int .u64 z4, .int .u64 z5, .int .u64 z6, .int .u64 z7, .slice MA mn mc, .slice OA on occ]] w fun e w' => SubR ⟨(k : Int), [z0, z1, z2, z3, z4, z5, z6, z7], mm, op⟩ s' MA mc OA occ en w e w' := by
  have HS := Lib.hid hs
  clear hs
  have h3 := three w (.cells #[.int .i64 mem, .int .i64 stk, .int .i64 inp, .slice Ad ld cd, .slice Af lf cf, .slice (some ⟨bc, oc, none⟩) lc cc] 26) (.cells #[.int .i64 (k : Int), .int .u64 z0, .int .u64 z1, .int .u64 z2, .int .u64 z3, .int .u64 z4, .int .u64 z5, .int .u64 z6, .int .u64 z7, .slice MA mn mc, .slice OA on occ] 45) (.cells #[.int .i64 0, .int .u64 0, .int .u64 0, .int .u64 0, .int .u64 0, .int .u64 0, .int .u64 0, .int .u64 0, .int .u64 0, .slice none 0 0, .slice none 0 0] 45)
  have hB : Below w.heap.size w (((w.alloc (.cells #[.int .i64 mem, .int .i64 stk, .int .i64 inp, .slice Ad ld cd, .slice Af lf cf, .slice (some ⟨bc, oc, none⟩) lc cc] 26)).alloc (.cells #[.int .i64 (k : Int), .int .u64 z0, .int .u64 z1, .int .u64 z2, .int .u64 z3, .int .u64 z4, .int .u64 z5, .int .u64 z6, .int .u64 z7, .slice MA mn mc, .slice OA on occ] 45)).alloc (.cells #[.int .i64 0, .int .u64 0, .int .u64 0, .int .u64 0, .int .u64 0, .int .u64 0, .int .u64 0, .int .u64 0, .int .u64 0, .slice none 0 0, .slice none 0 0] 45)) := (((Below.refl _ _).alloc (Nat.le_refl _) _).alloc (by simp) _).alloc (by simp; omega) _
  have hz : (((w.alloc (.cells #[.int .i64 mem, .int .i64 stk, .int .i64 inp, .slice Ad ld cd, .slice Af lf cf, .slice (some ⟨bc, oc, none⟩) lc cc] 26)).alloc (.cells #[.int .i64 (k : Int), .int .u64 z0, .int .u64 z1, .int .u64 z2, .int .u64 z3, .int .u64 z4, .int .u64 z5, .int .u64 z6, .int .u64 z7, .slice MA mn mc, .slice OA on occ] 45)).alloc (.cells #[.int .i64 0, .int .u64 0, .int .u64 0, .int .u64 0, .int .u64 0, .int .u64 0, .int .u64 0, .int .u64 0, .int .u64 0, .slice none 0 0, .slice none 0 0] 45)).heap.size = w.heap.size + 3 := by simp
  obtain ⟨j0, j1, j2, j3, j4⟩ := hins
  simp only at j0 j1 j2 j3 j4
  have hki : (k : Int) < lc := by omega
  have H3 := Lib.hid h3
  have HB3 := Lib.hid hB
  have HZ3 := Lib.hid hz
  have HJ := Lib.hid (And.intro j0 (And.intro j1 (And.intro j2 (And.intro j3 j4))))
  clear h3 hB hz j0 j1 j2 j3 j4
  go_enter Tryd.func20, Tryd.ntmps20
  go_upto_region 1 with (fail)
  generalize (((w.alloc (.cells #[.int .i64 mem, .int .i64 stk, .int .i64 inp, .slice Ad ld cd, .slice Af lf cf, .slice (some ⟨bc, oc, none⟩) lc cc] 26)).alloc (.cells #[.int .i64 (k : Int), .int .u64 z0, .int .u64 z1, .int .u64 z2, .int .u64 z3, .int .u64 z4, .int .u64 z5, .int .u64 z6, .int .u64 z7, .slice MA mn mc, .slice OA on occ] 45)).alloc (.cells #[.int .i64 0, .int .u64 0, .int .u64 0, .int .u64 0, .int .u64 0, .int .u64 0, .int .u64 0, .int .u64 0, .int .u64 0, .slice none 0 0, .slice none 0 0] 45)) = w3 at *
  have j0 := cells_below HB3.out HJ.out.1 hbc
  have j1 := cells_below HB3.out HJ.out.2.1 hbc
  have j2 := cells_below HB3.out HJ.out.2.2.1 hbc
  have j3 := cells_below HB3.out HJ.out.2.2.2.1 hbc
  have j4 := cells_below HB3.out HJ.out.2.2.2.2 hbc
  have q5 := row_cell H3.out.1 5
  have x0 := row_cell H3.out.2.1 0
  simp at q5 x0
  go_upto_region 2 with (fail)
  clear j0 j1 j2 j3 j4 q5 x0 hki
  have hz6 : (w3.alloc (.cells #[.int .i64 22, .int .i64 a, .int .i64 b, .int .i64 c, .int .u64 m] 59)).heap.size = w.heap.size + 4 := by have := HZ3.out; simp; omega
  have hb6 := Below.box w3 (.cells #[.int .i64 22, .int .i64 a, .int .i64 b, .int .i64 c, .int .u64 m] 59)
  have hB6 : Below w.heap.size w (w3.alloc (.cells #[.int .i64 22, .int .i64 a, .int .i64 b, .int .i64 c, .int .u64 m] 59)) := HB3.out.trans (hb6.mono HB3.out.size)
  have h40 := (hb6.block w.heap.size (by have := HZ3.out; omega)).trans H3.out.1
  have h41 := (hb6.block (w.heap.size + 1) (by have := HZ3.out; omega)).trans H3.out.2.1
  have h42 := (hb6.block (w.heap.size + 1 + 1) (by have := HZ3.out; omega)).trans H3.out.2.2
  have h43 : (w3.alloc (.cells #[.int .i64 22, .int .i64 a, .int .i64 b, .int .i64 c, .int .u64 m] 59)).heap[w3.heap.size]? = some (.cells #[.int .i64 22, .int .i64 a, .int .i64 b, .int .i64 c, .int .u64 m] 59 (0, 0)) := heap_newM rfl
  have hw3 : w3.heap.size = w.heap.size + 1 + 1 + 1 := HZ3.out
  rw [hw3] at h43 ⊢
  have H4 := Lib.hid (And.intro h40 (And.intro h41 (And.intro h42 h43)))
  have HB := Lib.hid hB6
  have HZ := Lib.hid hz6
  clear h40 h41 h42 h43 hB6 hb6 hz6 hw3
  generalize w3.alloc (.cells #[.int .i64 22, .int .i64 a, .int .i64 b, .int .i64 c, .int .u64 m] 59) = w6 at *
  have i0 := row_cell H4.out.2.2.2 0
  have i1 := row_cell H4.out.2.2.2 1
  have i2 := row_cell H4.out.2.2.2 2
  have i3 := row_cell H4.out.2.2.2 3
  have i4 := row_cell H4.out.2.2.2 4
  simp at i0 i1 i2 i3 i4
  have x0 := row_cell H4.out.2.1 0
  have x1 := row_cell H4.out.2.1 1
  have x2 := row_cell H4.out.2.1 2
  have x3 := row_cell H4.out.2.1 3
  have x4 := row_cell H4.out.2.1 4
  have x5 := row_cell H4.out.2.1 5
  have x6 := row_cell H4.out.2.1 6
  have x7 := row_cell H4.out.2.1 7
  have x8 := row_cell H4.out.2.1 8
  have x9 := row_cell H4.out.2.1 9
  have x10 := row_cell H4.out.2.1 10
  simp at x0 x1 x2 x3 x4 x5 x6 x7 x8 x9 x10
  have q0 := row_cell H4.out.1 0
  have q1 := row_cell H4.out.1 1
  have q2 := row_cell H4.out.1 2
  have q3 := row_cell H4.out.1 3
  have q4 := row_cell H4.out.1 4
  have q5 := row_cell H4.out.1 5
  simp at q0 q1 q2 q3 q4 q5
  go_wp2_with fail
  refine (HS.out _ HB.out).mono ?_
  rintro e v ⟨V, rfl, hres, hb⟩
  have HX2 := Lib.hid ((hb.block _ (by have := HZ.out; omega)).trans H4.out.2.2.1)
  have HBV := Lib.hid (HB.out.trans (hb.mono HB.out.size))
  have HR := Lib.hid hres
  have HWZ := Lib.hid (show w.heap.size + 4 ≤ w6.heap.size by have := HZ.out; omega)
  clear hb hres q0 q1 q2 q3 q4 q5 x0 x1 x2 x3 x4 x5 x6 x7 x8 x9 x10 i0 i1 i2 i3 i4
  go_wp2_with (with_reducible refine store_r (.tmp 6) (.tmp 91) (w.heap.size + 1 + 1) _ V HX2.out rfl rfl rfl rfl rfl HR.out.sz HR.out.one ?_)
  refine ret_r2 (w.heap.size + 1 + 1) V (.int .i64 en) (setRow_heap _ _ _ _ _ _ HX2.out) HR.out.sz rfl rfl rfl rfl ?_
  exact ⟨V, rfl, HR.out.keep (by have := HWZ.out; omega) (fun k hk => setRow_other _ _ _ _ (by have := HWZ.out; omega)), below_setRowM HBV.out (by omega) _⟩

set_option maxRecDepth 20000 in
set_option maxHeartbeats 6400000 in
theorem rstep_sub23 (mem stk inp : Int) (Ad : Option Addr) (ld cd : Nat) (Af : Option Addr) (lf cf bc oc lc cc : Nat) (Ai : Option Addr) (li ci k : Nat) (a b c m : Int) (mm op : List Int) (s' : Mc.St) (en : Int) (z0 z1 z2 z3 z4 z5 z6 z7 : Int) (MA : Option Addr) (mn mc : Nat) (OA : Option Addr) (on occ : Nat) (w : World) (hk : k < lc) (hbc : bc < w.heap.size) (hins : InsAt w bc (oc + k * 5) ⟨23, a, b, c, m⟩) (hs : ∀ W, Below w.heap.size w W → Calls Tryd.prog 39 #[.agg #[.int .i64 mem, .int .i64 stk, .int .i64 inp, .slice Ad ld cd, .slice Af lf cf, .slice (some ⟨bc, oc, none⟩) lc cc], .agg #[.int .i64 23, .int .i64 a, .int .i64 b, .int .i64 c, .int .u64 m], .agg #[.int .i64 (k : Int), .int .u64 z0, .int .u64 z1, .int .u64 z2, .int .u64 z3, .int .u64 z4, .int .u64 z5, .int .u64 z6, .int .u64 z7, .slice MA mn mc, .slice OA on occ]] W (SubR ⟨(k : Int), [z0, z1, z2, z3, z4, z5, z6, z7], mm, op⟩ s' MA mc OA occ en W)) :
    Calls Tryd.prog 20 #[.agg #[.int .i64 mem, .int .i64 stk, .int .i64 inp, .slice Ad ld cd, .slice Af lf cf, .slice (some ⟨bc, oc, none⟩) lc cc], .slice Ai li ci, .agg #[.int .i64 (k : Int), .int .u64 z0, .int .u64 z1, .int .u64 z2, .int .u64 z3, .int .u64 z4, .int .u64 z5, .int .u64 z6, .int .u64 z7, .slice MA mn mc, .slice OA on occ]] w fun e w' => SubR ⟨(k : Int), [z0, z1, z2, z3, z4, z5, z6, z7], mm, op⟩ s' MA mc OA occ en w e w' := by
  have HS := Lib.hid hs
  clear hs
  have h3 := three w (.cells #[.int .i64 mem, .int .i64 stk, .int .i64 inp, .slice Ad ld cd, .slice Af lf cf, .slice (some ⟨bc, oc, none⟩) lc cc] 26) (.cells #[.int .i64 (k : Int), .int .u64 z0, .int .u64 z1, .int .u64 z2, .int .u64 z3, .int .u64 z4, .int .u64 z5, .int .u64 z6, .int .u64 z7, .slice MA mn mc, .slice OA on occ] 45) (.cells #[.int .i64 0, .int .u64 0, .int .u64 0, .int .u64 0, .int .u64 0, .int .u64 0, .int .u64 0, .int .u64 0, .int .u64 0, .slice none 0 0, .slice none 0 0] 45)
  have hB : Below w.heap.size w (((w.alloc (.cells #[.int .i64 mem, .int .i64 stk, .int .i64 inp, .slice Ad ld cd, .slice Af lf cf, .slice (some ⟨bc, oc, none⟩) lc cc] 26)).alloc (.cells #[.int .i64 (k : Int), .int .u64 z0, .int .u64 z1, .int .u64 z2, .int .u64 z3, .int .u64 z4, .int .u64 z5, .int .u64 z6, .int .u64 z7, .slice MA mn mc, .slice OA on occ] 45)).alloc (.cells #[.int .i64 0, .int .u64 0, .int .u64 0, .int .u64 0, .int .u64 0, .int .u64 0, .int .u64 0, .int .u64 0, .int .u64 0, .slice none 0 0, .slice none 0 0] 45)) := (((Below.refl _ _).alloc (Nat.le_refl _) _).alloc (by simp) _).alloc (by simp; omega) _
  have hz : (((w.alloc (.cells #[.int .i64 mem, .int .i64 stk, .int .i64 inp, .slice Ad ld cd, .slice Af lf cf, .slice (some ⟨bc, oc, none⟩) lc cc] 26)).alloc (.cells #[.int .i64 (k : Int), .int .u64 z0, .int .u64 z1, .int .u64 z2, .int .u64 z3, .int .u64 z4, .int .u64 z5, .int .u64 z6, .int .u64 z7, .slice MA mn mc, .slice OA on occ] 45)).alloc (.cells #[.int .i64 0, .int .u64 0, .int .u64 0, .int .u64 0, .int .u64 0, .int .u64 0, .int .u64 0, .int .u64 0, .int .u64 0, .slice none 0 0, .slice none 0 0] 45)).heap.size = w.heap.size + 3 := by simp
  obtain ⟨j0, j1, j2, j3, j4⟩ := hins
  simp only at j0 j1 j2 j3 j4
  have hki : (k : Int) < lc := by omega
  have H3 := Lib.hid h3
  have HB3 := Lib.hid hB
  have HZ3 := Lib.hid hz
  have HJ := Lib.hid (And.intro j0 (And.intro j1 (And.intro j2 (And.intro j3 j4))))
  clear h3 hB hz j0 j1 j2 j3 j4
  go_enter Tryd.func20, Tryd.ntmps20
  go_upto_region 1 with (fail)
  generalize (((w.alloc (.cells #[.int .i64 mem, .int .i64 stk, .int .i64 inp, .slice Ad ld cd, .slice Af lf cf, .slice (some ⟨bc, oc, none⟩) lc cc] 26)).alloc (.cells #[.int .i64 (k : Int), .int .u64 z0, .int .u64 z1, .int .u64 z2, .int .u64 z3, .int .u64 z4, .int .u64 z5, .int .u64 z6, .int .u64 z7, .slice MA mn mc, .slice OA on occ] 45)).alloc (.cells #[.int .i64 0, .int .u64 0, .int .u64 0, .int .u64 0, .int .u64 0, .int .u64 0, .int .u64 0, .int .u64 0, .int .u64 0, .slice none 0 0, .slice none 0 0] 45)) = w3 at *
  have j0 := cells_below HB3.out HJ.out.1 hbc
  have j1 := cells_below HB3.out HJ.out.2.1 hbc
  have j2 := cells_below HB3.out HJ.out.2.2.1 hbc
  have j3 := cells_below HB3.out HJ.out.2.2.2.1 hbc
  have j4 := cells_below HB3.out HJ.out.2.2.2.2 hbc
  have q5 := row_cell H3.out.1 5
  have x0 := row_cell H3.out.2.1 0
  simp at q5 x0
  go_upto_region 2 with (fail)
  clear j0 j1 j2 j3 j4 q5 x0 hki
  have hz6 : (w3.alloc (.cells #[.int .i64 23, .int .i64 a, .int .i64 b, .int .i64 c, .int .u64 m] 59)).heap.size = w.heap.size + 4 := by have := HZ3.out; simp; omega
  have hb6 := Below.box w3 (.cells #[.int .i64 23, .int .i64 a, .int .i64 b, .int .i64 c, .int .u64 m] 59)
  have hB6 : Below w.heap.size w (w3.alloc (.cells #[.int .i64 23, .int .i64 a, .int .i64 b, .int .i64 c, .int .u64 m] 59)) := HB3.out.trans (hb6.mono HB3.out.size)
  have h40 := (hb6.block w.heap.size (by have := HZ3.out; omega)).trans H3.out.1
  have h41 := (hb6.block (w.heap.size + 1) (by have := HZ3.out; omega)).trans H3.out.2.1
  have h42 := (hb6.block (w.heap.size + 1 + 1) (by have := HZ3.out; omega)).trans H3.out.2.2
  have h43 : (w3.alloc (.cells #[.int .i64 23, .int .i64 a, .int .i64 b, .int .i64 c, .int .u64 m] 59)).heap[w3.heap.size]? = some (.cells #[.int .i64 23, .int .i64 a, .int .i64 b, .int .i64 c, .int .u64 m] 59 (0, 0)) := heap_newM rfl
  have hw3 : w3.heap.size = w.heap.size + 1 + 1 + 1 := HZ3.out
  rw [hw3] at h43 ⊢
  have H4 := Lib.hid (And.intro h40 (And.intro h41 (And.intro h42 h43)))
  have HB := Lib.hid hB6
  have HZ := Lib.hid hz6
  clear h40 h41 h42 h43 hB6 hb6 hz6 hw3
  generalize w3.alloc (.cells #[.int .i64 23, .int .i64 a, .int .i64 b, .int .i64 c, .int .u64 m] 59) = w6 at *
  have i0 := row_cell H4.out.2.2.2 0
  have i1 := row_cell H4.out.2.2.2 1
  have i2 := row_cell H4.out.2.2.2 2
  have i3 := row_cell H4.out.2.2.2 3
  have i4 := row_cell H4.out.2.2.2 4
  simp at i0 i1 i2 i3 i4
  have x0 := row_cell H4.out.2.1 0
  have x1 := row_cell H4.out.2.1 1
  have x2 := row_cell H4.out.2.1 2
  have x3 := row_cell H4.out.2.1 3
  have x4 := row_cell H4.out.2.1 4
  have x5 := row_cell H4.out.2.1 5
  have x6 := row_cell H4.out.2.1 6
  have x7 := row_cell H4.out.2.1 7
  have x8 := row_cell H4.out.2.1 8
  have x9 := row_cell H4.out.2.1 9
  have x10 := row_cell H4.out.2.1 10
  simp at x0 x1 x2 x3 x4 x5 x6 x7 x8 x9 x10
  have q0 := row_cell H4.out.1 0
  have q1 := row_cell H4.out.1 1
  have q2 := row_cell H4.out.1 2
  have q3 := row_cell H4.out.1 3
  have q4 := row_cell H4.out.1 4
  have q5 := row_cell H4.out.1 5
  simp at q0 q1 q2 q3 q4 q5
  go_wp2_with fail
  refine (HS.out _ HB.out).mono ?_
  rintro e v ⟨V, rfl, hres, hb⟩
  have HX2 := Lib.hid ((hb.block _ (by have := HZ.out; omega)).trans H4.out.2.2.1)
  have HBV := Lib.hid (HB.out.trans (hb.mono HB.out.size))
  have HR := Lib.hid hres
  have HWZ := Lib.hid (show w.heap.size + 4 ≤ w6.heap.size by have := HZ.out; omega)
  clear hb hres q0 q1 q2 q3 q4 q5 x0 x1 x2 x3 x4 x5 x6 x7 x8 x9 x10 i0 i1 i2 i3 i4
  go_wp2_with (with_reducible refine store_r (.tmp 6) (.tmp 91) (w.heap.size + 1 + 1) _ V HX2.out rfl rfl rfl rfl rfl HR.out.sz HR.out.one ?_)
  refine ret_r2 (w.heap.size + 1 + 1) V (.int .i64 en) (setRow_heap _ _ _ _ _ _ HX2.out) HR.out.sz rfl rfl rfl rfl ?_
  exact ⟨V, rfl, HR.out.keep (by have := HWZ.out; omega) (fun k hk => setRow_other _ _ _ _ (by have := HWZ.out; omega)), below_setRowM HBV.out (by omega) _⟩

set_option maxRecDepth 20000 in
set_option maxHeartbeats 6400000 in
theorem rstep_sub24 (mem stk inp : Int) (Ad : Option Addr) (ld cd : Nat) (Af : Option Addr) (lf cf bc oc lc cc : Nat) (Ai : Option Addr) (li ci k : Nat) (a b c m : Int) (mm op : List Int) (s' : Mc.St) (en : Int) (z0 z1 z2 z3 z4 z5 z6 z7 : Int) (MA : Option Addr) (mn mc : Nat) (OA : Option Addr) (on occ : Nat) (w : World) (hk : k < lc) (hbc : bc < w.heap.size) (hins : InsAt w bc (oc + k * 5) ⟨24, a, b, c, m⟩) (hs : ∀ W, Below w.heap.size w W → Calls Tryd.prog 39 #[.agg #[.int .i64 mem, .int .i64 stk, .int .i64 inp, .slice Ad ld cd, .slice Af lf cf, .slice (some ⟨bc, oc, none⟩) lc cc], .agg #[.int .i64 24, .int .i64 a, .int .i64 b, .int .i64 c, .int .u64 m], .agg #[.int .i64 (k : Int), .int .u64 z0, .int .u64 z1, .int .u64 z2, .int .u64 z3, .int .u64 z4, .int .u64 z5, .int .u64 z6, .int .u64 z7, .slice MA mn mc, .slice OA on occ]] W (SubR ⟨(k : Int), [z0, z1, z2, z3, z4, z5, z6, z7], mm, op⟩ s' MA mc OA occ en W)) :
    Calls Tryd.prog 20 #[.agg #[.int .i64 mem, .int .i64 stk, .int .i64 inp, .slice Ad ld cd, .slice Af lf cf, .slice (some ⟨bc, oc, none⟩) lc cc], .slice Ai li ci, .agg #[.int .i64 (k : Int), .int .u64 z0, .int .u64 z1, .int .u64 z2, .int .u64 z3, .int .u64 z4, .int .u64 z5, .int .u64 z6, .int .u64 z7, .slice MA mn mc, .slice OA on occ]] w fun e w' => SubR ⟨(k : Int), [z0, z1, z2, z3, z4, z5, z6, z7], mm, op⟩ s' MA mc OA occ en w e w' := by
  have HS := Lib.hid hs
  clear hs
  have h3 := three w (.cells #[.int .i64 mem, .int .i64 stk, .int .i64 inp, .slice Ad ld cd, .slice Af lf cf, .slice (some ⟨bc, oc, none⟩) lc cc] 26) (.cells #[.int .i64 (k : Int), .int .u64 z0, .int .u64 z1, .int .u64 z2, .int .u64 z3, .int .u64 z4, .int .u64 z5, .int .u64 z6, .int .u64 z7, .slice MA mn mc, .slice OA on occ] 45) (.cells #[.int .i64 0, .int .u64 0, .int .u64 0, .int .u64 0, .int .u64 0, .int .u64 0, .int .u64 0, .int .u64 0, .int .u64 0, .slice none 0 0, .slice none 0 0] 45)
  have hB : Below w.heap.size w (((w.alloc (.cells #[.int .i64 mem, .int .i64 stk, .int .i64 inp, .slice Ad ld cd, .slice Af lf cf, .slice (some ⟨bc, oc, none⟩) lc cc] 26)).alloc (.cells #[.int .i64 (k : Int), .int .u64 z0, .int .u64 z1, .int .u64 z2, .int .u64 z3, .int .u64 z4, .int .u64 z5, .int .u64 z6, .int .u64 z7, .slice MA mn mc, .slice OA on occ] 45)).alloc (.cells #[.int .i64 0, .int .u64 0, .int .u64 0, .int .u64 0, .int .u64 0, .int .u64 0, .int .u64 0, .int .u64 0, .int .u64 0, .slice none 0 0, .slice none 0 0] 45)) := (((Below.refl _ _).alloc (Nat.le_refl _) _).alloc (by simp) _).alloc (by simp; omega) _
  have hz : (((w.alloc (.cells #[.int .i64 mem, .int .i64 stk, .int .i64 inp, .slice Ad ld cd, .slice Af lf cf, .slice (some ⟨bc, oc, none⟩) lc cc] 26)).alloc (.cells #[.int .i64 (k : Int), .int .u64 z0, .int .u64 z1, .int .u64 z2, .int .u64 z3, .int .u64 z4, .int .u64 z5, .int .u64 z6, .int .u64 z7, .slice MA mn mc, .slice OA on occ] 45)).alloc (.cells #[.int .i64 0, .int .u64 0, .int .u64 0, .int .u64 0, .int .u64 0, .int .u64 0, .int .u64 0, .int .u64 0, .int .u64 0, .slice none 0 0, .slice none 0 0] 45)).heap.size = w.heap.size + 3 := by simp
  obtain ⟨j0, j1, j2, j3, j4⟩ := hins
  simp only at j0 j1 j2 j3 j4
  have hki : (k : Int) < lc := by omega
  have H3 := Lib.hid h3
  have HB3 := Lib.hid hB
  have HZ3 := Lib.hid hz
  have HJ := Lib.hid (And.intro j0 (And.intro j1 (And.intro j2 (And.intro j3 j4))))
  clear h3 hB hz j0 j1 j2 j3 j4
  go_enter Tryd.func20, Tryd.ntmps20
  go_upto_region 1 with (fail)
  generalize (((w.alloc (.cells #[.int .i64 mem, .int .i64 stk, .int .i64 inp, .slice Ad ld cd, .slice Af lf cf, .slice (some ⟨bc, oc, none⟩) lc cc] 26)).alloc (.cells #[.int .i64 (k : Int), .int .u64 z0, .int .u64 z1, .int .u64 z2, .int .u64 z3, .int .u64 z4, .int .u64 z5, .int .u64 z6, .int .u64 z7, .slice MA mn mc, .slice OA on occ] 45)).alloc (.cells #[.int .i64 0, .int .u64 0, .int .u64 0, .int .u64 0, .int .u64 0, .int .u64 0, .int .u64 0, .int .u64 0, .int .u64 0, .slice none 0 0, .slice none 0 0] 45)) = w3 at *
  have j0 := cells_below HB3.out HJ.out.1 hbc
  have j1 := cells_below HB3.out HJ.out.2.1 hbc
  have j2 := cells_below HB3.out HJ.out.2.2.1 hbc
  have j3 := cells_below HB3.out HJ.out.2.2.2.1 hbc
  have j4 := cells_below HB3.out HJ.out.2.2.2.2 hbc
  have q5 := row_cell H3.out.1 5
  have x0 := row_cell H3.out.2.1 0
  simp at q5 x0
  go_upto_region 2 with (fail)
  clear j0 j1 j2 j3 j4 q5 x0 hki
  have hz6 : (w3.alloc (.cells #[.int .i64 24, .int .i64 a, .int .i64 b, .int .i64 c, .int .u64 m] 59)).heap.size = w.heap.size + 4 := by have := HZ3.out; simp; omega
  have hb6 := Below.box w3 (.cells #[.int .i64 24, .int .i64 a, .int .i64 b, .int .i64 c, .int .u64 m] 59)
  have hB6 : Below w.heap.size w (w3.alloc (.cells #[.int .i64 24, .int .i64 a, .int .i64 b, .int .i64 c, .int .u64 m] 59)) := HB3.out.trans (hb6.mono HB3.out.size)
  have h40 := (hb6.block w.heap.size (by have := HZ3.out; omega)).trans H3.out.1
  have h41 := (hb6.block (w.heap.size + 1) (by have := HZ3.out; omega)).trans H3.out.2.1
  have h42 := (hb6.block (w.heap.size + 1 + 1) (by have := HZ3.out; omega)).trans H3.out.2.2
  have h43 : (w3.alloc (.cells #[.int .i64 24, .int .i64 a, .int .i64 b, .int .i64 c, .int .u64 m] 59)).heap[w3.heap.size]? = some (.cells #[.int .i64 24, .int .i64 a, .int .i64 b, .int .i64 c, .int .u64 m] 59 (0, 0)) := heap_newM rfl
  have hw3 : w3.heap.size = w.heap.size + 1 + 1 + 1 := HZ3.out
  rw [hw3] at h43 ⊢
  have H4 := Lib.hid (And.intro h40 (And.intro h41 (And.intro h42 h43)))
  have HB := Lib.hid hB6
  have HZ := Lib.hid hz6
  clear h40 h41 h42 h43 hB6 hb6 hz6 hw3
  generalize w3.alloc (.cells #[.int .i64 24, .int .i64 a, .int .i64 b, .int .i64 c, .int .u64 m] 59) = w6 at *
  have i0 := row_cell H4.out.2.2.2 0
  have i1 := row_cell H4.out.2.2.2 1
  have i2 := row_cell H4.out.2.2.2 2
  have i3 := row_cell H4.out.2.2.2 3
  have i4 := row_cell H4.out.2.2.2 4
  simp at i0 i1 i2 i3 i4
  have x0 := row_cell H4.out.2.1 0
  have x1 := row_cell H4.out.2.1 1
  have x2 := row_cell H4.out.2.1 2
  have x3 := row_cell H4.out.2.1 3
  have x4 := row_cell H4.out.2.1 4
  have x5 := row_cell H4.out.2.1 5
  have x6 := row_cell H4.out.2.1 6
  have x7 := row_cell H4.out.2.1 7
  have x8 := row_cell H4.out.2.1 8
  have x9 := row_cell H4.out.2.1 9
  have x10 := row_cell H4.out.2.1 10
  simp at x0 x1 x2 x3 x4 x5 x6 x7 x8 x9 x10
  have q0 := row_cell H4.out.1 0
  have q1 := row_cell H4.out.1 1
  have q2 := row_cell H4.out.1 2
  have q3 := row_cell H4.out.1 3
  have q4 := row_cell H4.out.1 4
  have q5 := row_cell H4.out.1 5
  simp at q0 q1 q2 q3 q4 q5
  go_wp2_with fail
  refine (HS.out _ HB.out).mono ?_
  rintro e v ⟨V, rfl, hres, hb⟩
  have HX2 := Lib.hid ((hb.block _ (by have := HZ.out; omega)).trans H4.out.2.2.1)
  have HBV := Lib.hid (HB.out.trans (hb.mono HB.out.size))
  have HR := Lib.hid hres
  have HWZ := Lib.hid (show w.heap.size + 4 ≤ w6.heap.size by have := HZ.out; omega)
  clear hb hres q0 q1 q2 q3 q4 q5 x0 x1 x2 x3 x4 x5 x6 x7 x8 x9 x10 i0 i1 i2 i3 i4
  go_wp2_with (with_reducible refine store_r (.tmp 6) (.tmp 91) (w.heap.size + 1 + 1) _ V HX2.out rfl rfl rfl rfl rfl HR.out.sz HR.out.one ?_)
  refine ret_r2 (w.heap.size + 1 + 1) V (.int .i64 en) (setRow_heap _ _ _ _ _ _ HX2.out) HR.out.sz rfl rfl rfl rfl ?_
  exact ⟨V, rfl, HR.out.keep (by have := HWZ.out; omega) (fun k hk => setRow_other _ _ _ _ (by have := HWZ.out; omega)), below_setRowM HBV.out (by omega) _⟩

set_option maxRecDepth 20000 in
set_option maxHeartbeats 6400000 in
theorem rstep_set (mem stk inp : Int) (Ad : Option Addr) (ld cd : Nat) (Af : Option Addr) (lf cf bc oc lc cc : Nat) (Ai : Option Addr) (li ci k : Nat) (a : Nat) (ha : a < 8) (mm op : List Int) (b c m : Int) (z0 z1 z2 z3 z4 z5 z6 z7 : Int) (MA : Option Addr) (mn mc : Nat) (OA : Option Addr) (on occ : Nat) (w : World) (hk : k < lc) (hbc : bc < w.heap.size) (hins : InsAt w bc (oc + k * 5) ⟨1, (a : Int), b, c, m⟩) (hml : mm.length = mn) (hol : op.length = on) (hkM : k < 1000000) :
    Calls Tryd.prog 20 #[.agg #[.int .i64 mem, .int .i64 stk, .int .i64 inp, .slice Ad ld cd, .slice Af lf cf, .slice (some ⟨bc, oc, none⟩) lc cc], .slice Ai li ci, .agg #[.int .i64 (k : Int), .int .u64 z0, .int .u64 z1, .int .u64 z2, .int .u64 z3, .int .u64 z4, .int .u64 z5, .int .u64 z6, .int .u64 z7, .slice MA mn mc, .slice OA on occ]] w fun e w' => SubR ⟨(k : Int), [z0, z1, z2, z3, z4, z5, z6, z7], mm, op⟩ ⟨(k : Int) + 1, [z0, z1, z2, z3, z4, z5, z6, z7].set a m, mm, op⟩ MA mc OA occ 0 w e w' := by
  have hwi : ∀ W, Calls Tryd.prog 37 #[.agg #[.int .i64 (k : Int), .int .u64 z0, .int .u64 z1, .int .u64 z2, .int .u64 z3, .int .u64 z4, .int .u64 z5, .int .u64 z6, .int .u64 z7, .slice MA mn mc, .slice OA on occ], .int .i64 a, .int .u64 m] W fun e w' => e = .returned (.agg (stC ⟨(k : Int) + 1, [z0, z1, z2, z3, z4, z5, z6, z7].set a m, mm, op⟩ (.slice MA mn mc) (.slice OA on occ))) ∧ Below W.heap.size W w' := fun W => rwith_any a ha ⟨(k : Int), [z0, z1, z2, z3, z4, z5, z6, z7], mm, op⟩ rfl MA mn mc OA on occ m W (by show (0 : Int) ≤ (k : Int); omega) (by show (k : Int) < 1000000; omega)
  have hrs : ∀ b v, ResR b v ⟨(k : Int), [z0, z1, z2, z3, z4, z5, z6, z7], mm, op⟩ ⟨(k : Int) + 1, [z0, z1, z2, z3, z4, z5, z6, z7].set a m, mm, op⟩ MA mc OA occ (stC ⟨(k : Int) + 1, [z0, z1, z2, z3, z4, z5, z6, z7].set a m, mm, op⟩ (.slice MA mn mc) (.slice OA on occ)) := fun b v => ⟨MA, mc, OA, occ, by rw [← hml, ← hol], .inl ⟨rfl, rfl, rfl⟩, .inl ⟨rfl, rfl, rfl⟩⟩
  generalize stC ⟨(k : Int) + 1, [z0, z1, z2, z3, z4, z5, z6, z7].set a m, mm, op⟩ (.slice MA mn mc) (.slice OA on occ) = V at *
  have HWI := Lib.hid hwi
  have HR := Lib.hid hrs
  clear hwi hrs hkM hml hol ha
  have h3 := three w (.cells #[.int .i64 mem, .int .i64 stk, .int .i64 inp, .slice Ad ld cd, .slice Af lf cf, .slice (some ⟨bc, oc, none⟩) lc cc] 26) (.cells #[.int .i64 (k : Int), .int .u64 z0, .int .u64 z1, .int .u64 z2, .int .u64 z3, .int .u64 z4, .int .u64 z5, .int .u64 z6, .int .u64 z7, .slice MA mn mc, .slice OA on occ] 45) (.cells #[.int .i64 0, .int .u64 0, .int .u64 0, .int .u64 0, .int .u64 0, .int .u64 0, .int .u64 0, .int .u64 0, .int .u64 0, .slice none 0 0, .slice none 0 0] 45)
  have hB : Below w.heap.size w (((w.alloc (.cells #[.int .i64 mem, .int .i64 stk, .int .i64 inp, .slice Ad ld cd, .slice Af lf cf, .slice (some ⟨bc, oc, none⟩) lc cc] 26)).alloc (.cells #[.int .i64 (k : Int), .int .u64 z0, .int .u64 z1, .int .u64 z2, .int .u64 z3, .int .u64 z4, .int .u64 z5, .int .u64 z6, .int .u64 z7, .slice MA mn mc, .slice OA on occ] 45)).alloc (.cells #[.int .i64 0, .int .u64 0, .int .u64 0, .int .u64 0, .int .u64 0, .int .u64 0, .int .u64 0, .int .u64 0, .int .u64 0, .slice none 0 0, .slice none 0 0] 45)) := (((Below.refl _ _).alloc (Nat.le_refl _) _).alloc (by simp) _).alloc (by simp; omega) _
  have hz : (((w.alloc (.cells #[.int .i64 mem, .int .i64 stk, .int .i64 inp, .slice Ad ld cd, .slice Af lf cf, .slice (some ⟨bc, oc, none⟩) lc cc] 26)).alloc (.cells #[.int .i64 (k : Int), .int .u64 z0, .int .u64 z1, .int .u64 z2, .int .u64 z3, .int .u64 z4, .int .u64 z5, .int .u64 z6, .int .u64 z7, .slice MA mn mc, .slice OA on occ] 45)).alloc (.cells #[.int .i64 0, .int .u64 0, .int .u64 0, .int .u64 0, .int .u64 0, .int .u64 0, .int .u64 0, .int .u64 0, .int .u64 0, .slice none 0 0, .slice none 0 0] 45)).heap.size = w.heap.size + 3 := by simp
  obtain ⟨j0, j1, j2, j3, j4⟩ := hins
  simp only at j0 j1 j2 j3 j4
  have hki : (k : Int) < lc := by omega
  have H3 := Lib.hid h3
  have HB3 := Lib.hid hB
  have HZ3 := Lib.hid hz
  have HJ := Lib.hid (And.intro j0 (And.intro j1 (And.intro j2 (And.intro j3 j4))))
  clear h3 hB hz j0 j1 j2 j3 j4
  go_enter Tryd.func20, Tryd.ntmps20
  go_upto_region 1 with (fail)
  generalize (((w.alloc (.cells #[.int .i64 mem, .int .i64 stk, .int .i64 inp, .slice Ad ld cd, .slice Af lf cf, .slice (some ⟨bc, oc, none⟩) lc cc] 26)).alloc (.cells #[.int .i64 (k : Int), .int .u64 z0, .int .u64 z1, .int .u64 z2, .int .u64 z3, .int .u64 z4, .int .u64 z5, .int .u64 z6, .int .u64 z7, .slice MA mn mc, .slice OA on occ] 45)).alloc (.cells #[.int .i64 0, .int .u64 0, .int .u64 0, .int .u64 0, .int .u64 0, .int .u64 0, .int .u64 0, .int .u64 0, .int .u64 0, .slice none 0 0, .slice none 0 0] 45)) = w3 at *
  have j0 := cells_below HB3.out HJ.out.1 hbc
  have j1 := cells_below HB3.out HJ.out.2.1 hbc
  have j2 := cells_below HB3.out HJ.out.2.2.1 hbc
  have j3 := cells_below HB3.out HJ.out.2.2.2.1 hbc
  have j4 := cells_below HB3.out HJ.out.2.2.2.2 hbc
  have q5 := row_cell H3.out.1 5
  have x0 := row_cell H3.out.2.1 0
  simp at q5 x0
  go_upto_region 2 with (fail)
  clear j0 j1 j2 j3 j4 q5 x0 hki
  have hz6 : (w3.alloc (.cells #[.int .i64 1, .int .i64 (a : Int), .int .i64 b, .int .i64 c, .int .u64 m] 59)).heap.size = w.heap.size + 4 := by have := HZ3.out; simp; omega
  have hb6 := Below.box w3 (.cells #[.int .i64 1, .int .i64 (a : Int), .int .i64 b, .int .i64 c, .int .u64 m] 59)
  have hB6 : Below w.heap.size w (w3.alloc (.cells #[.int .i64 1, .int .i64 (a : Int), .int .i64 b, .int .i64 c, .int .u64 m] 59)) := HB3.out.trans (hb6.mono HB3.out.size)
  have h40 := (hb6.block w.heap.size (by have := HZ3.out; omega)).trans H3.out.1
  have h41 := (hb6.block (w.heap.size + 1) (by have := HZ3.out; omega)).trans H3.out.2.1
  have h42 := (hb6.block (w.heap.size + 1 + 1) (by have := HZ3.out; omega)).trans H3.out.2.2
  have h43 : (w3.alloc (.cells #[.int .i64 1, .int .i64 (a : Int), .int .i64 b, .int .i64 c, .int .u64 m] 59)).heap[w3.heap.size]? = some (.cells #[.int .i64 1, .int .i64 (a : Int), .int .i64 b, .int .i64 c, .int .u64 m] 59 (0, 0)) := heap_newM rfl
  have hw3 : w3.heap.size = w.heap.size + 1 + 1 + 1 := HZ3.out
  rw [hw3] at h43 ⊢
  have H4 := Lib.hid (And.intro h40 (And.intro h41 (And.intro h42 h43)))
  have HB := Lib.hid hB6
  have HZ := Lib.hid hz6
  clear h40 h41 h42 h43 hB6 hb6 hz6 hw3
  generalize w3.alloc (.cells #[.int .i64 1, .int .i64 (a : Int), .int .i64 b, .int .i64 c, .int .u64 m] 59) = w6 at *
  have i0 := row_cell H4.out.2.2.2 0
  have i1 := row_cell H4.out.2.2.2 1
  have i2 := row_cell H4.out.2.2.2 2
  have i3 := row_cell H4.out.2.2.2 3
  have i4 := row_cell H4.out.2.2.2 4
  simp at i0 i1 i2 i3 i4
  have x0 := row_cell H4.out.2.1 0
  have x1 := row_cell H4.out.2.1 1
  have x2 := row_cell H4.out.2.1 2
  have x3 := row_cell H4.out.2.1 3
  have x4 := row_cell H4.out.2.1 4
  have x5 := row_cell H4.out.2.1 5
  have x6 := row_cell H4.out.2.1 6
  have x7 := row_cell H4.out.2.1 7
  have x8 := row_cell H4.out.2.1 8
  have x9 := row_cell H4.out.2.1 9
  have x10 := row_cell H4.out.2.1 10
  simp at x0 x1 x2 x3 x4 x5 x6 x7 x8 x9 x10
  go_wp2_with fail
  refine (HWI.out _).mono ?_
  rintro e v ⟨rfl, hb⟩
  have HX2 := Lib.hid ((hb.block _ (by have := HZ.out; omega)).trans H4.out.2.2.1)
  have HBV := Lib.hid (HB.out.trans (hb.mono HB.out.size))
  clear hb x0 x1 x2 x3 x4 x5 x6 x7 x8 x9 x10 i0 i1 i2 i3 i4
  go_wp2_with (with_reducible refine store_r (.tmp 6) (.tmp 28) (w.heap.size + 1 + 1) _ V HX2.out rfl rfl rfl rfl rfl (HR.out 0 w).sz (HR.out 0 w).one ?_)
  refine ret_r2 (w.heap.size + 1 + 1) V (.int .i64 0) (setRow_heap _ _ _ _ _ _ HX2.out) (HR.out 0 w).sz rfl rfl rfl rfl ?_
  exact ⟨V, rfl, HR.out _ _, below_setRowM HBV.out (by omega) _⟩

set_option maxRecDepth 20000 in
set_option maxHeartbeats 6400000 in
theorem rstep_len (mem stk inp : Int) (Ad : Option Addr) (ld cd : Nat) (Af : Option Addr) (lf cf bc oc lc cc : Nat) (Ai : Option Addr) (li ci k : Nat) (a : Nat) (ha : a < 8) (mm op : List Int) (b c m : Int) (z0 z1 z2 z3 z4 z5 z6 z7 : Int) (MA : Option Addr) (mn mc : Nat) (OA : Option Addr) (on occ : Nat) (w : World) (hk : k < lc) (hbc : bc < w.heap.size) (hins : InsAt w bc (oc + k * 5) ⟨20, (a : Int), b, c, m⟩) (hml : mm.length = mn) (hol : op.length = on) (hkM : k < 1000000) (hlM : li < 1000000) :
    Calls Tryd.prog 20 #[.agg #[.int .i64 mem, .int .i64 stk, .int .i64 inp, .slice Ad ld cd, .slice Af lf cf, .slice (some ⟨bc, oc, none⟩) lc cc], .slice Ai li ci, .agg #[.int .i64 (k : Int), .int .u64 z0, .int .u64 z1, .int .u64 z2, .int .u64 z3, .int .u64 z4, .int .u64 z5, .int .u64 z6, .int .u64 z7, .slice MA mn mc, .slice OA on occ]] w fun e w' => SubR ⟨(k : Int), [z0, z1, z2, z3, z4, z5, z6, z7], mm, op⟩ ⟨(k : Int) + 1, [z0, z1, z2, z3, z4, z5, z6, z7].set a (li : Int), mm, op⟩ MA mc OA occ 0 w e w' := by
  have hwi : ∀ W, Calls Tryd.prog 37 #[.agg #[.int .i64 (k : Int), .int .u64 z0, .int .u64 z1, .int .u64 z2, .int .u64 z3, .int .u64 z4, .int .u64 z5, .int .u64 z6, .int .u64 z7, .slice MA mn mc, .slice OA on occ], .int .i64 a, .int .u64 (li : Int)] W fun e w' => e = .returned (.agg (stC ⟨(k : Int) + 1, [z0, z1, z2, z3, z4, z5, z6, z7].set a (li : Int), mm, op⟩ (.slice MA mn mc) (.slice OA on occ))) ∧ Below W.heap.size W w' := fun W => rwith_any a ha ⟨(k : Int), [z0, z1, z2, z3, z4, z5, z6, z7], mm, op⟩ rfl MA mn mc OA on occ (li : Int) W (by show (0 : Int) ≤ (k : Int); omega) (by show (k : Int) < 1000000; omega)
  have hrs : ∀ b v, ResR b v ⟨(k : Int), [z0, z1, z2, z3, z4, z5, z6, z7], mm, op⟩ ⟨(k : Int) + 1, [z0, z1, z2, z3, z4, z5, z6, z7].set a (li : Int), mm, op⟩ MA mc OA occ (stC ⟨(k : Int) + 1, [z0, z1, z2, z3, z4, z5, z6, z7].set a (li : Int), mm, op⟩ (.slice MA mn mc) (.slice OA on occ)) := fun b v => ⟨MA, mc, OA, occ, by rw [← hml, ← hol], .inl ⟨rfl, rfl, rfl⟩, .inl ⟨rfl, rfl, rfl⟩⟩
  generalize stC ⟨(k : Int) + 1, [z0, z1, z2, z3, z4, z5, z6, z7].set a (li : Int), mm, op⟩ (.slice MA mn mc) (.slice OA on occ) = V at *
  have HWI := Lib.hid hwi
  have HR := Lib.hid hrs
  clear hwi hrs hkM hml hol ha
  have hlw : IntKind.u64.wrap (li : Int) = li := by rw [IntKind.wrap_u64]; omega
  clear hlM
  have h3 := three w (.cells #[.int .i64 mem, .int .i64 stk, .int .i64 inp, .slice Ad ld cd, .slice Af lf cf, .slice (some ⟨bc, oc, none⟩) lc cc] 26) (.cells #[.int .i64 (k : Int), .int .u64 z0, .int .u64 z1, .int .u64 z2, .int .u64 z3, .int .u64 z4, .int .u64 z5, .int .u64 z6, .int .u64 z7, .slice MA mn mc, .slice OA on occ] 45) (.cells #[.int .i64 0, .int .u64 0, .int .u64 0, .int .u64 0, .int .u64 0, .int .u64 0, .int .u64 0, .int .u64 0, .int .u64 0, .slice none 0 0, .slice none 0 0] 45)
  have hB : Below w.heap.size w (((w.alloc (.cells #[.int .i64 mem, .int .i64 stk, .int .i64 inp, .slice Ad ld cd, .slice Af lf cf, .slice (some ⟨bc, oc, none⟩) lc cc] 26)).alloc (.cells #[.int .i64 (k : Int), .int .u64 z0, .int .u64 z1, .int .u64 z2, .int .u64 z3, .int .u64 z4, .int .u64 z5, .int .u64 z6, .int .u64 z7, .slice MA mn mc, .slice OA on occ] 45)).alloc (.cells #[.int .i64 0, .int .u64 0, .int .u64 0, .int .u64 0, .int .u64 0, .int .u64 0, .int .u64 0, .int .u64 0, .int .u64 0, .slice none 0 0, .slice none 0 0] 45)) := (((Below.refl _ _).alloc (Nat.le_refl _) _).alloc (by simp) _).alloc (by simp; omega) _
  have hz : (((w.alloc (.cells #[.int .i64 mem, .int .i64 stk, .int .i64 inp, .slice Ad ld cd, .slice Af lf cf, .slice (some ⟨bc, oc, none⟩) lc cc] 26)).alloc (.cells #[.int .i64 (k : Int), .int .u64 z0, .int .u64 z1, .int .u64 z2, .int .u64 z3, .int .u64 z4, .int .u64 z5, .int .u64 z6, .int .u64 z7, .slice MA mn mc, .slice OA on occ] 45)).alloc (.cells #[.int .i64 0, .int .u64 0, .int .u64 0, .int .u64 0, .int .u64 0, .int .u64 0, .int .u64 0, .int .u64 0, .int .u64 0, .slice none 0 0, .slice none 0 0] 45)).heap.size = w.heap.size + 3 := by simp
  obtain ⟨j0, j1, j2, j3, j4⟩ := hins
  simp only at j0 j1 j2 j3 j4
  have hki : (k : Int) < lc := by omega
  have H3 := Lib.hid h3
  have HB3 := Lib.hid hB
  have HZ3 := Lib.hid hz
  have HJ := Lib.hid (And.intro j0 (And.intro j1 (And.intro j2 (And.intro j3 j4))))
  clear h3 hB hz j0 j1 j2 j3 j4
  go_enter Tryd.func20, Tryd.ntmps20
  go_upto_region 1 with (fail)
  generalize (((w.alloc (.cells #[.int .i64 mem, .int .i64 stk, .int .i64 inp, .slice Ad ld cd, .slice Af lf cf, .slice (some ⟨bc, oc, none⟩) lc cc] 26)).alloc (.cells #[.int .i64 (k : Int), .int .u64 z0, .int .u64 z1, .int .u64 z2, .int .u64 z3, .int .u64 z4, .int .u64 z5, .int .u64 z6, .int .u64 z7, .slice MA mn mc, .slice OA on occ] 45)).alloc (.cells #[.int .i64 0, .int .u64 0, .int .u64 0, .int .u64 0, .int .u64 0, .int .u64 0, .int .u64 0, .int .u64 0, .int .u64 0, .slice none 0 0, .slice none 0 0] 45)) = w3 at *
  have j0 := cells_below HB3.out HJ.out.1 hbc
  have j1 := cells_below HB3.out HJ.out.2.1 hbc
  have j2 := cells_below HB3.out HJ.out.2.2.1 hbc
  have j3 := cells_below HB3.out HJ.out.2.2.2.1 hbc
  have j4 := cells_below HB3.out HJ.out.2.2.2.2 hbc
  have q5 := row_cell H3.out.1 5
  have x0 := row_cell H3.out.2.1 0
  simp at q5 x0
  go_upto_region 2 with (fail)
  clear j0 j1 j2 j3 j4 q5 x0 hki
  have hz6 : (w3.alloc (.cells #[.int .i64 20, .int .i64 (a : Int), .int .i64 b, .int .i64 c, .int .u64 m] 59)).heap.size = w.heap.size + 4 := by have := HZ3.out; simp; omega
  have hb6 := Below.box w3 (.cells #[.int .i64 20, .int .i64 (a : Int), .int .i64 b, .int .i64 c, .int .u64 m] 59)
  have hB6 : Below w.heap.size w (w3.alloc (.cells #[.int .i64 20, .int .i64 (a : Int), .int .i64 b, .int .i64 c, .int .u64 m] 59)) := HB3.out.trans (hb6.mono HB3.out.size)
  have h40 := (hb6.block w.heap.size (by have := HZ3.out; omega)).trans H3.out.1
  have h41 := (hb6.block (w.heap.size + 1) (by have := HZ3.out; omega)).trans H3.out.2.1
  have h42 := (hb6.block (w.heap.size + 1 + 1) (by have := HZ3.out; omega)).trans H3.out.2.2
  have h43 : (w3.alloc (.cells #[.int .i64 20, .int .i64 (a : Int), .int .i64 b, .int .i64 c, .int .u64 m] 59)).heap[w3.heap.size]? = some (.cells #[.int .i64 20, .int .i64 (a : Int), .int .i64 b, .int .i64 c, .int .u64 m] 59 (0, 0)) := heap_newM rfl
  have hw3 : w3.heap.size = w.heap.size + 1 + 1 + 1 := HZ3.out
  rw [hw3] at h43 ⊢
  have H4 := Lib.hid (And.intro h40 (And.intro h41 (And.intro h42 h43)))
  have HB := Lib.hid hB6
  have HZ := Lib.hid hz6
  clear h40 h41 h42 h43 hB6 hb6 hz6 hw3
  generalize w3.alloc (.cells #[.int .i64 20, .int .i64 (a : Int), .int .i64 b, .int .i64 c, .int .u64 m] 59) = w6 at *
  have i0 := row_cell H4.out.2.2.2 0
  have i1 := row_cell H4.out.2.2.2 1
  have i2 := row_cell H4.out.2.2.2 2
  have i3 := row_cell H4.out.2.2.2 3
  have i4 := row_cell H4.out.2.2.2 4
  simp at i0 i1 i2 i3 i4
  have x0 := row_cell H4.out.2.1 0
  have x1 := row_cell H4.out.2.1 1
  have x2 := row_cell H4.out.2.1 2
  have x3 := row_cell H4.out.2.1 3
  have x4 := row_cell H4.out.2.1 4
  have x5 := row_cell H4.out.2.1 5
  have x6 := row_cell H4.out.2.1 6
  have x7 := row_cell H4.out.2.1 7
  have x8 := row_cell H4.out.2.1 8
  have x9 := row_cell H4.out.2.1 9
  have x10 := row_cell H4.out.2.1 10
  simp at x0 x1 x2 x3 x4 x5 x6 x7 x8 x9 x10
  go_wp2_with fail
  refine (HWI.out _).mono ?_
  rintro e v ⟨rfl, hb⟩
  have HX2 := Lib.hid ((hb.block _ (by have := HZ.out; omega)).trans H4.out.2.2.1)
  have HBV := Lib.hid (HB.out.trans (hb.mono HB.out.size))
  clear hb x0 x1 x2 x3 x4 x5 x6 x7 x8 x9 x10 i0 i1 i2 i3 i4
  go_wp2_with (with_reducible refine store_r (.tmp 6) (.tmp 81) (w.heap.size + 1 + 1) _ V HX2.out rfl rfl rfl rfl rfl (HR.out 0 w).sz (HR.out 0 w).one ?_)
  refine ret_r2 (w.heap.size + 1 + 1) V (.int .i64 0) (setRow_heap _ _ _ _ _ _ HX2.out) (HR.out 0 w).sz rfl rfl rfl rfl ?_
  exact ⟨V, rfl, HR.out _ _, below_setRowM HBV.out (by omega) _⟩

set_option maxRecDepth 20000 in
set_option maxHeartbeats 6400000 in
theorem rstep_copy (mem stk inp : Int) (Ad : Option Addr) (ld cd : Nat) (Af : Option Addr) (lf cf bc oc lc cc : Nat) (Ai : Option Addr) (li ci k : Nat) (a : Nat) (ha : a < 8) (mm op : List Int) (b : Nat) (hb : b < 8) (c m x : Int) (z0 z1 z2 z3 z4 z5 z6 z7 : Int) (MA : Option Addr) (mn mc : Nat) (OA : Option Addr) (on occ : Nat) (w : World) (hk : k < lc) (hbc : bc < w.heap.size) (hins : InsAt w bc (oc + k * 5) ⟨2, (a : Int), (b : Int), c, m⟩) (hml : mm.length = mn) (hol : op.length = on) (hkM : k < 1000000) (hx : (#[.int .i64 (k : Int), .int .u64 z0, .int .u64 z1, .int .u64 z2, .int .u64 z3, .int .u64 z4, .int .u64 z5, .int .u64 z6, .int .u64 z7, .slice MA mn mc, .slice OA on occ] : Array Value)[1 + b]? = some (.int .u64 x)) :
    Calls Tryd.prog 20 #[.agg #[.int .i64 mem, .int .i64 stk, .int .i64 inp, .slice Ad ld cd, .slice Af lf cf, .slice (some ⟨bc, oc, none⟩) lc cc], .slice Ai li ci, .agg #[.int .i64 (k : Int), .int .u64 z0, .int .u64 z1, .int .u64 z2, .int .u64 z3, .int .u64 z4, .int .u64 z5, .int .u64 z6, .int .u64 z7, .slice MA mn mc, .slice OA on occ]] w fun e w' => SubR ⟨(k : Int), [z0, z1, z2, z3, z4, z5, z6, z7], mm, op⟩ ⟨(k : Int) + 1, [z0, z1, z2, z3, z4, z5, z6, z7].set a x, mm, op⟩ MA mc OA occ 0 w e w' := by
  have hwi : ∀ W, Calls Tryd.prog 37 #[.agg #[.int .i64 (k : Int), .int .u64 z0, .int .u64 z1, .int .u64 z2, .int .u64 z3, .int .u64 z4, .int .u64 z5, .int .u64 z6, .int .u64 z7, .slice MA mn mc, .slice OA on occ], .int .i64 a, .int .u64 x] W fun e w' => e = .returned (.agg (stC ⟨(k : Int) + 1, [z0, z1, z2, z3, z4, z5, z6, z7].set a x, mm, op⟩ (.slice MA mn mc) (.slice OA on occ))) ∧ Below W.heap.size W w' := fun W => rwith_any a ha ⟨(k : Int), [z0, z1, z2, z3, z4, z5, z6, z7], mm, op⟩ rfl MA mn mc OA on occ x W (by show (0 : Int) ≤ (k : Int); omega) (by show (k : Int) < 1000000; omega)
  have hrs : ∀ b v, ResR b v ⟨(k : Int), [z0, z1, z2, z3, z4, z5, z6, z7], mm, op⟩ ⟨(k : Int) + 1, [z0, z1, z2, z3, z4, z5, z6, z7].set a x, mm, op⟩ MA mc OA occ (stC ⟨(k : Int) + 1, [z0, z1, z2, z3, z4, z5, z6, z7].set a x, mm, op⟩ (.slice MA mn mc) (.slice OA on occ)) := fun b v => ⟨MA, mc, OA, occ, by rw [← hml, ← hol], .inl ⟨rfl, rfl, rfl⟩, .inl ⟨rfl, rfl, rfl⟩⟩
  generalize stC ⟨(k : Int) + 1, [z0, z1, z2, z3, z4, z5, z6, z7].set a x, mm, op⟩ (.slice MA mn mc) (.slice OA on occ) = V at *
  have HWI := Lib.hid hwi
  have HR := Lib.hid hrs
  clear hwi hrs hkM hml hol ha
  have HXB := Lib.hid hx
  have hbi : (b : Int) < 8 := by omega
  clear hx hb
  have h3 := three w (.cells #[.int .i64 mem, .int .i64 stk, .int .i64 inp, .slice Ad ld cd, .slice Af lf cf, .slice (some ⟨bc, oc, none⟩) lc cc] 26) (.cells #[.int .i64 (k : Int), .int .u64 z0, .int .u64 z1, .int .u64 z2, .int .u64 z3, .int .u64 z4, .int .u64 z5, .int .u64 z6, .int .u64 z7, .slice MA mn mc, .slice OA on occ] 45) (.cells #[.int .i64 0, .int .u64 0, .int .u64 0, .int .u64 0, .int .u64 0, .int .u64 0, .int .u64 0, .int .u64 0, .int .u64 0, .slice none 0 0, .slice none 0 0] 45)
  have hB : Below w.heap.size w (((w.alloc (.cells #[.int .i64 mem, .int .i64 stk, .int .i64 inp, .slice Ad ld cd, .slice Af lf cf, .slice (some ⟨bc, oc, none⟩) lc cc] 26)).alloc (.cells #[.int .i64 (k : Int), .int .u64 z0, .int .u64 z1, .int .u64 z2, .int .u64 z3, .int .u64 z4, .int .u64 z5, .int .u64 z6, .int .u64 z7, .slice MA mn mc, .slice OA on occ] 45)).alloc (.cells #[.int .i64 0, .int .u64 0, .int .u64 0, .int .u64 0, .int .u64 0, .int .u64 0, .int .u64 0, .int .u64 0, .int .u64 0, .slice none 0 0, .slice none 0 0] 45)) := (((Below.refl _ _).alloc (Nat.le_refl _) _).alloc (by simp) _).alloc (by simp; omega) _
  have hz : (((w.alloc (.cells #[.int .i64 mem, .int .i64 stk, .int .i64 inp, .slice Ad ld cd, .slice Af lf cf, .slice (some ⟨bc, oc, none⟩) lc cc] 26)).alloc (.cells #[.int .i64 (k : Int), .int .u64 z0, .int .u64 z1, .int .u64 z2, .int .u64 z3, .int .u64 z4, .int .u64 z5, .int .u64 z6, .int .u64 z7, .slice MA mn mc, .slice OA on occ] 45)).alloc (.cells #[.int .i64 0, .int .u64 0, .int .u64 0, .int .u64 0, .int .u64 0, .int .u64 0, .int .u64 0, .int .u64 0, .int .u64 0, .slice none 0 0, .slice none 0 0] 45)).heap.size = w.heap.size + 3 := by simp
  obtain ⟨j0, j1, j2, j3, j4⟩ := hins
  simp only at j0 j1 j2 j3 j4
  have hki : (k : Int) < lc := by omega
  have H3 := Lib.hid h3
  have HB3 := Lib.hid hB
  have HZ3 := Lib.hid hz
  have HJ := Lib.hid (And.intro j0 (And.intro j1 (And.intro j2 (And.intro j3 j4))))
  clear h3 hB hz j0 j1 j2 j3 j4
  go_enter Tryd.func20, Tryd.ntmps20
  go_upto_region 1 with (fail)
  generalize (((w.alloc (.cells #[.int .i64 mem, .int .i64 stk, .int .i64 inp, .slice Ad ld cd, .slice Af lf cf, .slice (some ⟨bc, oc, none⟩) lc cc] 26)).alloc (.cells #[.int .i64 (k : Int), .int .u64 z0, .int .u64 z1, .int .u64 z2, .int .u64 z3, .int .u64 z4, .int .u64 z5, .int .u64 z6, .int .u64 z7, .slice MA mn mc, .slice OA on occ] 45)).alloc (.cells #[.int .i64 0, .int .u64 0, .int .u64 0, .int .u64 0, .int .u64 0, .int .u64 0, .int .u64 0, .int .u64 0, .int .u64 0, .slice none 0 0, .slice none 0 0] 45)) = w3 at *
  have j0 := cells_below HB3.out HJ.out.1 hbc
  have j1 := cells_below HB3.out HJ.out.2.1 hbc
  have j2 := cells_below HB3.out HJ.out.2.2.1 hbc
  have j3 := cells_below HB3.out HJ.out.2.2.2.1 hbc
  have j4 := cells_below HB3.out HJ.out.2.2.2.2 hbc
  have q5 := row_cell H3.out.1 5
  have x0 := row_cell H3.out.2.1 0
  simp at q5 x0
  go_upto_region 2 with (fail)
  clear j0 j1 j2 j3 j4 q5 x0 hki
  have hz6 : (w3.alloc (.cells #[.int .i64 2, .int .i64 (a : Int), .int .i64 (b : Int), .int .i64 c, .int .u64 m] 59)).heap.size = w.heap.size + 4 := by have := HZ3.out; simp; omega
  have hb6 := Below.box w3 (.cells #[.int .i64 2, .int .i64 (a : Int), .int .i64 (b : Int), .int .i64 c, .int .u64 m] 59)
  have hB6 : Below w.heap.size w (w3.alloc (.cells #[.int .i64 2, .int .i64 (a : Int), .int .i64 (b : Int), .int .i64 c, .int .u64 m] 59)) := HB3.out.trans (hb6.mono HB3.out.size)
  have h40 := (hb6.block w.heap.size (by have := HZ3.out; omega)).trans H3.out.1
  have h41 := (hb6.block (w.heap.size + 1) (by have := HZ3.out; omega)).trans H3.out.2.1
  have h42 := (hb6.block (w.heap.size + 1 + 1) (by have := HZ3.out; omega)).trans H3.out.2.2
  have h43 : (w3.alloc (.cells #[.int .i64 2, .int .i64 (a : Int), .int .i64 (b : Int), .int .i64 c, .int .u64 m] 59)).heap[w3.heap.size]? = some (.cells #[.int .i64 2, .int .i64 (a : Int), .int .i64 (b : Int), .int .i64 c, .int .u64 m] 59 (0, 0)) := heap_newM rfl
  have hw3 : w3.heap.size = w.heap.size + 1 + 1 + 1 := HZ3.out
  rw [hw3] at h43 ⊢
  have H4 := Lib.hid (And.intro h40 (And.intro h41 (And.intro h42 h43)))
  have HB := Lib.hid hB6
  have HZ := Lib.hid hz6
  clear h40 h41 h42 h43 hB6 hb6 hz6 hw3
  generalize w3.alloc (.cells #[.int .i64 2, .int .i64 (a : Int), .int .i64 (b : Int), .int .i64 c, .int .u64 m] 59) = w6 at *
  have i0 := row_cell H4.out.2.2.2 0
  have i1 := row_cell H4.out.2.2.2 1
  have i2 := row_cell H4.out.2.2.2 2
  have i3 := row_cell H4.out.2.2.2 3
  have i4 := row_cell H4.out.2.2.2 4
  simp at i0 i1 i2 i3 i4
  have cb : w6.cell? ⟨w.heap.size + 1, 1 + b, none⟩ = some (.int .u64 x) := by
    rw [cell_of_row _ _ _ _ _ _ H4.out.2.1]
    exact HXB.out
  have x0 := row_cell H4.out.2.1 0
  have x1 := row_cell H4.out.2.1 1
  have x2 := row_cell H4.out.2.1 2
  have x3 := row_cell H4.out.2.1 3
  have x4 := row_cell H4.out.2.1 4
  have x5 := row_cell H4.out.2.1 5
  have x6 := row_cell H4.out.2.1 6
  have x7 := row_cell H4.out.2.1 7
  have x8 := row_cell H4.out.2.1 8
  have x9 := row_cell H4.out.2.1 9
  have x10 := row_cell H4.out.2.1 10
  simp at x0 x1 x2 x3 x4 x5 x6 x7 x8 x9 x10
  go_upto_region 8 with (fail)
  refine quiet_tail 8 (by kernel_rfl) (by kernel_rfl) ?_
  simp only [List.take_succ_cons, List.take_zero, List.drop_succ_cons, List.drop_zero]
  repeat (quiet_step (fail))
  refine wpQuiet_nil ?_
  intro _ hw'
  obtain ⟨nq, hw''⟩ := hw'
  subst hw''
  have hB7 := below_drewN HB.out nq
  have h70 : (w6.drewN nq).heap[w.heap.size]? = _ := H4.out.1
  have h71 : (w6.drewN nq).heap[w.heap.size + 1]? = _ := H4.out.2.1
  have h72 : (w6.drewN nq).heap[w.heap.size + 1 + 1]? = _ := H4.out.2.2.1
  have h73 : (w6.drewN nq).heap[w.heap.size + 1 + 1 + 1]? = _ := H4.out.2.2.2
  have hz7 : (w6.drewN nq).heap.size = w.heap.size + 4 := HZ.out
  have H4q := Lib.hid (And.intro h70 (And.intro h71 (And.intro h72 h73)))
  have HBq := Lib.hid hB7
  have HZq := Lib.hid hz7
  clear h70 h71 h72 h73 hB7 hz7
  generalize w6.drewN nq = w7 at *
  clear cb x0 x1 x2 x3 x4 x5 x6 x7 x8 x9 x10 i0 i1 i2 i3 i4
  go_wp2_with fail
  refine (HWI.out _).mono ?_
  rintro e v ⟨rfl, hb⟩
  have HX2 := Lib.hid ((hb.block _ (by have := HZq.out; omega)).trans H4q.out.2.2.1)
  have HBV := Lib.hid (HBq.out.trans (hb.mono HBq.out.size))
  clear hb 
  go_wp2_with (with_reducible refine store_r (.tmp 6) (.tmp 39) (w.heap.size + 1 + 1) _ V HX2.out rfl rfl rfl rfl rfl (HR.out 0 w).sz (HR.out 0 w).one ?_)
  refine ret_r2 (w.heap.size + 1 + 1) V (.int .i64 0) (setRow_heap _ _ _ _ _ _ HX2.out) (HR.out 0 w).sz rfl rfl rfl rfl ?_
  exact ⟨V, rfl, HR.out _ _, below_setRowM HBV.out (by omega) _⟩

set_option maxRecDepth 20000 in
set_option maxHeartbeats 6400000 in
theorem rstep_far (mem stk inp : Int) (Ad : Option Addr) (ld cd : Nat) (Af : Option Addr) (lf cf bc oc lc cc : Nat) (Ai : Option Addr) (li ci k : Nat) (a : Nat) (mm op : List Int) (b t : Nat) (hb : b < 8) (c m x : Int) (z0 z1 z2 z3 z4 z5 z6 z7 : Int) (MA : Option Addr) (mn mc : Nat) (OA : Option Addr) (on occ : Nat) (w : World) (hk : k < lc) (hbc : bc < w.heap.size) (hins : InsAt w bc (oc + k * 5) ⟨19, (a : Int), (b : Int), c, m⟩) (hml : mm.length = mn) (hol : op.length = on) (hf : li ≤ t) (hlM : li < 1000000) (hx : (#[.int .i64 (k : Int), .int .u64 z0, .int .u64 z1, .int .u64 z2, .int .u64 z3, .int .u64 z4, .int .u64 z5, .int .u64 z6, .int .u64 z7, .slice MA mn mc, .slice OA on occ] : Array Value)[1 + b]? = some (.int .u64 x)) (hat : (x + m) % 18446744073709551616 = (t : Int)) :
    Calls Tryd.prog 20 #[.agg #[.int .i64 mem, .int .i64 stk, .int .i64 inp, .slice Ad ld cd, .slice Af lf cf, .slice (some ⟨bc, oc, none⟩) lc cc], .slice Ai li ci, .agg #[.int .i64 (k : Int), .int .u64 z0, .int .u64 z1, .int .u64 z2, .int .u64 z3, .int .u64 z4, .int .u64 z5, .int .u64 z6, .int .u64 z7, .slice MA mn mc, .slice OA on occ]] w fun e w' => e = .returned (.tuple #[.agg #[.int .i64 (k : Int), .int .u64 z0, .int .u64 z1, .int .u64 z2, .int .u64 z3, .int .u64 z4, .int .u64 z5, .int .u64 z6, .int .u64 z7, .slice MA mn mc, .slice OA on occ], .int .i64 5]) ∧ Below w.heap.size w w' := by
  have HXB := Lib.hid hx
  have hbi : (b : Int) < 8 := by omega
  have hlw : IntKind.u64.wrap (li : Int) = li := by rw [IntKind.wrap_u64]; omega
  have e0 : IntKind.u64.wrap (x + m) = (t : Int) := by rw [IntKind.wrap_u64, hat]
  clear hx hb hat hlM
  have hfi : (li : Int) ≤ t := by omega
  clear hml hol hf
  have h3 := three w (.cells #[.int .i64 mem, .int .i64 stk, .int .i64 inp, .slice Ad ld cd, .slice Af lf cf, .slice (some ⟨bc, oc, none⟩) lc cc] 26) (.cells #[.int .i64 (k : Int), .int .u64 z0, .int .u64 z1, .int .u64 z2, .int .u64 z3, .int .u64 z4, .int .u64 z5, .int .u64 z6, .int .u64 z7, .slice MA mn mc, .slice OA on occ] 45) (.cells #[.int .i64 0, .int .u64 0, .int .u64 0, .int .u64 0, .int .u64 0, .int .u64 0, .int .u64 0, .int .u64 0, .int .u64 0, .slice none 0 0, .slice none 0 0] 45)
  have hB : Below w.heap.size w (((w.alloc (.cells #[.int .i64 mem, .int .i64 stk, .int .i64 inp, .slice Ad ld cd, .slice Af lf cf, .slice (some ⟨bc, oc, none⟩) lc cc] 26)).alloc (.cells #[.int .i64 (k : Int), .int .u64 z0, .int .u64 z1, .int .u64 z2, .int .u64 z3, .int .u64 z4, .int .u64 z5, .int .u64 z6, .int .u64 z7, .slice MA mn mc, .slice OA on occ] 45)).alloc (.cells #[.int .i64 0, .int .u64 0, .int .u64 0, .int .u64 0, .int .u64 0, .int .u64 0, .int .u64 0, .int .u64 0, .int .u64 0, .slice none 0 0, .slice none 0 0] 45)) := (((Below.refl _ _).alloc (Nat.le_refl _) _).alloc (by simp) _).alloc (by simp; omega) _
  have hz : (((w.alloc (.cells #[.int .i64 mem, .int .i64 stk, .int .i64 inp, .slice Ad ld cd, .slice Af lf cf, .slice (some ⟨bc, oc, none⟩) lc cc] 26)).alloc (.cells #[.int .i64 (k : Int), .int .u64 z0, .int .u64 z1, .int .u64 z2, .int .u64 z3, .int .u64 z4, .int .u64 z5, .int .u64 z6, .int .u64 z7, .slice MA mn mc, .slice OA on occ] 45)).alloc (.cells #[.int .i64 0, .int .u64 0, .int .u64 0, .int .u64 0, .int .u64 0, .int .u64 0, .int .u64 0, .int .u64 0, .int .u64 0, .slice none 0 0, .slice none 0 0] 45)).heap.size = w.heap.size + 3 := by simp
  obtain ⟨j0, j1, j2, j3, j4⟩ := hins
  simp only at j0 j1 j2 j3 j4
  have hki : (k : Int) < lc := by omega
  have H3 := Lib.hid h3
  have HB3 := Lib.hid hB
  have HZ3 := Lib.hid hz
  have HJ := Lib.hid (And.intro j0 (And.intro j1 (And.intro j2 (And.intro j3 j4))))
  clear h3 hB hz j0 j1 j2 j3 j4
  go_enter Tryd.func20, Tryd.ntmps20
  go_upto_region 1 with (fail)
  generalize (((w.alloc (.cells #[.int .i64 mem, .int .i64 stk, .int .i64 inp, .slice Ad ld cd, .slice Af lf cf, .slice (some ⟨bc, oc, none⟩) lc cc] 26)).alloc (.cells #[.int .i64 (k : Int), .int .u64 z0, .int .u64 z1, .int .u64 z2, .int .u64 z3, .int .u64 z4, .int .u64 z5, .int .u64 z6, .int .u64 z7, .slice MA mn mc, .slice OA on occ] 45)).alloc (.cells #[.int .i64 0, .int .u64 0, .int .u64 0, .int .u64 0, .int .u64 0, .int .u64 0, .int .u64 0, .int .u64 0, .int .u64 0, .slice none 0 0, .slice none 0 0] 45)) = w3 at *
  have j0 := cells_below HB3.out HJ.out.1 hbc
  have j1 := cells_below HB3.out HJ.out.2.1 hbc
  have j2 := cells_below HB3.out HJ.out.2.2.1 hbc
  have j3 := cells_below HB3.out HJ.out.2.2.2.1 hbc
  have j4 := cells_below HB3.out HJ.out.2.2.2.2 hbc
  have q5 := row_cell H3.out.1 5
  have x0 := row_cell H3.out.2.1 0
  simp at q5 x0
  go_upto_region 2 with (fail)
  clear j0 j1 j2 j3 j4 q5 x0 hki
  have hz6 : (w3.alloc (.cells #[.int .i64 19, .int .i64 (a : Int), .int .i64 (b : Int), .int .i64 c, .int .u64 m] 59)).heap.size = w.heap.size + 4 := by have := HZ3.out; simp; omega
  have hb6 := Below.box w3 (.cells #[.int .i64 19, .int .i64 (a : Int), .int .i64 (b : Int), .int .i64 c, .int .u64 m] 59)
  have hB6 : Below w.heap.size w (w3.alloc (.cells #[.int .i64 19, .int .i64 (a : Int), .int .i64 (b : Int), .int .i64 c, .int .u64 m] 59)) := HB3.out.trans (hb6.mono HB3.out.size)
  have h40 := (hb6.block w.heap.size (by have := HZ3.out; omega)).trans H3.out.1
  have h41 := (hb6.block (w.heap.size + 1) (by have := HZ3.out; omega)).trans H3.out.2.1
  have h42 := (hb6.block (w.heap.size + 1 + 1) (by have := HZ3.out; omega)).trans H3.out.2.2
  have h43 : (w3.alloc (.cells #[.int .i64 19, .int .i64 (a : Int), .int .i64 (b : Int), .int .i64 c, .int .u64 m] 59)).heap[w3.heap.size]? = some (.cells #[.int .i64 19, .int .i64 (a : Int), .int .i64 (b : Int), .int .i64 c, .int .u64 m] 59 (0, 0)) := heap_newM rfl
  have hw3 : w3.heap.size = w.heap.size + 1 + 1 + 1 := HZ3.out
  rw [hw3] at h43 ⊢
  have H4 := Lib.hid (And.intro h40 (And.intro h41 (And.intro h42 h43)))
  have HB := Lib.hid hB6
  have HZ := Lib.hid hz6
  clear h40 h41 h42 h43 hB6 hb6 hz6 hw3
  generalize w3.alloc (.cells #[.int .i64 19, .int .i64 (a : Int), .int .i64 (b : Int), .int .i64 c, .int .u64 m] 59) = w6 at *
  have i0 := row_cell H4.out.2.2.2 0
  have i1 := row_cell H4.out.2.2.2 1
  have i2 := row_cell H4.out.2.2.2 2
  have i3 := row_cell H4.out.2.2.2 3
  have i4 := row_cell H4.out.2.2.2 4
  simp at i0 i1 i2 i3 i4
  have cb : w6.cell? ⟨w.heap.size + 1, 1 + b, none⟩ = some (.int .u64 x) := by
    rw [cell_of_row _ _ _ _ _ _ H4.out.2.1]
    exact HXB.out
  go_upto_region 13 with (fail)
  go_quiet (fail)
  have hB7 := below_drewN HB.out nq
  have h70 : (w6.drewN nq).heap[w.heap.size]? = _ := H4.out.1
  have h71 : (w6.drewN nq).heap[w.heap.size + 1]? = _ := H4.out.2.1
  have h72 : (w6.drewN nq).heap[w.heap.size + 1 + 1]? = _ := H4.out.2.2.1
  have h73 : (w6.drewN nq).heap[w.heap.size + 1 + 1 + 1]? = _ := H4.out.2.2.2
  have hz7 : (w6.drewN nq).heap.size = w.heap.size + 4 := HZ.out
  have H4q := Lib.hid (And.intro h70 (And.intro h71 (And.intro h72 h73)))
  have HBq := Lib.hid hB7
  have HZq := Lib.hid hz7
  clear h70 h71 h72 h73 hB7 hz7
  generalize w6.drewN nq = w7 at *
  clear cb i0 i1 i2 i3 i4 e0
  have x0 := row_cell H4q.out.2.1 0
  have x1 := row_cell H4q.out.2.1 1
  have x2 := row_cell H4q.out.2.1 2
  have x3 := row_cell H4q.out.2.1 3
  have x4 := row_cell H4q.out.2.1 4
  have x5 := row_cell H4q.out.2.1 5
  have x6 := row_cell H4q.out.2.1 6
  have x7 := row_cell H4q.out.2.1 7
  have x8 := row_cell H4q.out.2.1 8
  have x9 := row_cell H4q.out.2.1 9
  have x10 := row_cell H4q.out.2.1 10
  simp at x0 x1 x2 x3 x4 x5 x6 x7 x8 x9 x10
  have h1c : (#[.int .i64 (k : Int), .int .u64 z0, .int .u64 z1, .int .u64 z2, .int .u64 z3, .int .u64 z4, .int .u64 z5, .int .u64 z6, .int .u64 z7, .slice MA mn mc, .slice OA on occ] : Array Value).all (·.oneCell') = true := by simp [Value.oneCell']
  have H1C := Lib.hid h1c
  clear h1c
  go_wp2_with (with_reducible refine store_r (.tmp 6) _ (w.heap.size + 1 + 1) _ #[.int .i64 (k : Int), .int .u64 z0, .int .u64 z1, .int .u64 z2, .int .u64 z3, .int .u64 z4, .int .u64 z5, .int .u64 z6, .int .u64 z7, .slice MA mn mc, .slice OA on occ] H4q.out.2.2.1 rfl rfl rfl rfl rfl rfl H1C.out ?_)
  refine ret_r2 (w.heap.size + 1 + 1) #[.int .i64 (k : Int), .int .u64 z0, .int .u64 z1, .int .u64 z2, .int .u64 z3, .int .u64 z4, .int .u64 z5, .int .u64 z6, .int .u64 z7, .slice MA mn mc, .slice OA on occ] (.int .i64 5) (setRow_heap _ _ _ _ _ _ H4q.out.2.2.1) rfl rfl rfl rfl rfl ?_
  exact ⟨rfl, below_setRowM HBq.out (by omega) _⟩

set_option maxRecDepth 20000 in
set_option maxHeartbeats 6400000 in
theorem rstep_input (mem stk inp : Int) (Ad : Option Addr) (ld cd : Nat) (Af : Option Addr) (lf cf bc oc lc cc : Nat) (Ai : Option Addr) (li ci k : Nat) (a : Nat) (ha : a < 8) (mm op : List Int) (b t : Nat) (hb : b < 8) (c m x : Int) (z0 z1 z2 z3 z4 z5 z6 z7 : Int) (MA : Option Addr) (mn mc : Nat) (OA : Option Addr) (on occ : Nat) (w : World) (hk : k < lc) (hbc : bc < w.heap.size) (hins : InsAt w bc (oc + k * 5) ⟨19, (a : Int), (b : Int), c, m⟩) (hml : mm.length = mn) (hol : op.length = on) (hkM : k < 1000000) (hf : t < li) (xs : List Int) (hxs : BySl w Ai li ci xs) (hlM : li < 1000000) (hx : (#[.int .i64 (k : Int), .int .u64 z0, .int .u64 z1, .int .u64 z2, .int .u64 z3, .int .u64 z4, .int .u64 z5, .int .u64 z6, .int .u64 z7, .slice MA mn mc, .slice OA on occ] : Array Value)[1 + b]? = some (.int .u64 x)) (hat : (x + m) % 18446744073709551616 = (t : Int)) :
    Calls Tryd.prog 20 #[.agg #[.int .i64 mem, .int .i64 stk, .int .i64 inp, .slice Ad ld cd, .slice Af lf cf, .slice (some ⟨bc, oc, none⟩) lc cc], .slice Ai li ci, .agg #[.int .i64 (k : Int), .int .u64 z0, .int .u64 z1, .int .u64 z2, .int .u64 z3, .int .u64 z4, .int .u64 z5, .int .u64 z6, .int .u64 z7, .slice MA mn mc, .slice OA on occ]] w fun e w' => SubR ⟨(k : Int), [z0, z1, z2, z3, z4, z5, z6, z7], mm, op⟩ ⟨(k : Int) + 1, [z0, z1, z2, z3, z4, z5, z6, z7].set a (xs.getD t 0), mm, op⟩ MA mc OA occ 0 w e w' := by
  have hwi : ∀ W, Calls Tryd.prog 37 #[.agg #[.int .i64 (k : Int), .int .u64 z0, .int .u64 z1, .int .u64 z2, .int .u64 z3, .int .u64 z4, .int .u64 z5, .int .u64 z6, .int .u64 z7, .slice MA mn mc, .slice OA on occ], .int .i64 a, .int .u64 (xs.getD t 0)] W fun e w' => e = .returned (.agg (stC ⟨(k : Int) + 1, [z0, z1, z2, z3, z4, z5, z6, z7].set a (xs.getD t 0), mm, op⟩ (.slice MA mn mc) (.slice OA on occ))) ∧ Below W.heap.size W w' := fun W => rwith_any a ha ⟨(k : Int), [z0, z1, z2, z3, z4, z5, z6, z7], mm, op⟩ rfl MA mn mc OA on occ (xs.getD t 0) W (by show (0 : Int) ≤ (k : Int); omega) (by show (k : Int) < 1000000; omega)
  have hrs : ∀ b v, ResR b v ⟨(k : Int), [z0, z1, z2, z3, z4, z5, z6, z7], mm, op⟩ ⟨(k : Int) + 1, [z0, z1, z2, z3, z4, z5, z6, z7].set a (xs.getD t 0), mm, op⟩ MA mc OA occ (stC ⟨(k : Int) + 1, [z0, z1, z2, z3, z4, z5, z6, z7].set a (xs.getD t 0), mm, op⟩ (.slice MA mn mc) (.slice OA on occ)) := fun b v => ⟨MA, mc, OA, occ, by rw [← hml, ← hol], .inl ⟨rfl, rfl, rfl⟩, .inl ⟨rfl, rfl, rfl⟩⟩
  generalize stC ⟨(k : Int) + 1, [z0, z1, z2, z3, z4, z5, z6, z7].set a (xs.getD t 0), mm, op⟩ (.slice MA mn mc) (.slice OA on occ) = V at *
  have HWI := Lib.hid hwi
  have HR := Lib.hid hrs
  clear hwi hrs hkM hml hol ha
  have HXB := Lib.hid hx
  have hbi : (b : Int) < 8 := by omega
  have hlw : IntKind.u64.wrap (li : Int) = li := by rw [IntKind.wrap_u64]; omega
  have e0 : IntKind.u64.wrap (x + m) = (t : Int) := by rw [IntKind.wrap_u64, hat]
  clear hx hb hat hlM
  have hfi : ¬ (li : Int) ≤ t := by omega
  have hft : (t : Int) < li := by omega
  have hrx := hxs.isB t
  obtain ⟨ib, io, rfl, hib, hic⟩ := hxs.mem (by omega)
  have hcx := hic.at0 t (by rw [hxs.hlen]; exact hf)
  generalize xs.getD t 0 = u at *
  have huw : IntKind.u64.wrap u = u := by rw [IntKind.wrap_u64]; omega
  have HCX := Lib.hid (And.intro hcx hib)
  clear hic hcx hib hf hrx hxs
  have h3 := three w (.cells #[.int .i64 mem, .int .i64 stk, .int .i64 inp, .slice Ad ld cd, .slice Af lf cf, .slice (some ⟨bc, oc, none⟩) lc cc] 26) (.cells #[.int .i64 (k : Int), .int .u64 z0, .int .u64 z1, .int .u64 z2, .int .u64 z3, .int .u64 z4, .int .u64 z5, .int .u64 z6, .int .u64 z7, .slice MA mn mc, .slice OA on occ] 45) (.cells #[.int .i64 0, .int .u64 0, .int .u64 0, .int .u64 0, .int .u64 0, .int .u64 0, .int .u64 0, .int .u64 0, .int .u64 0, .slice none 0 0, .slice none 0 0] 45)
  have hB : Below w.heap.size w (((w.alloc (.cells #[.int .i64 mem, .int .i64 stk, .int .i64 inp, .slice Ad ld cd, .slice Af lf cf, .slice (some ⟨bc, oc, none⟩) lc cc] 26)).alloc (.cells #[.int .i64 (k : Int), .int .u64 z0, .int .u64 z1, .int .u64 z2, .int .u64 z3, .int .u64 z4, .int .u64 z5, .int .u64 z6, .int .u64 z7, .slice MA mn mc, .slice OA on occ] 45)).alloc (.cells #[.int .i64 0, .int .u64 0, .int .u64 0, .int .u64 0, .int .u64 0, .int .u64 0, .int .u64 0, .int .u64 0, .int .u64 0, .slice none 0 0, .slice none 0 0] 45)) := (((Below.refl _ _).alloc (Nat.le_refl _) _).alloc (by simp) _).alloc (by simp; omega) _
  have hz : (((w.alloc (.cells #[.int .i64 mem, .int .i64 stk, .int .i64 inp, .slice Ad ld cd, .slice Af lf cf, .slice (some ⟨bc, oc, none⟩) lc cc] 26)).alloc (.cells #[.int .i64 (k : Int), .int .u64 z0, .int .u64 z1, .int .u64 z2, .int .u64 z3, .int .u64 z4, .int .u64 z5, .int .u64 z6, .int .u64 z7, .slice MA mn mc, .slice OA on occ] 45)).alloc (.cells #[.int .i64 0, .int .u64 0, .int .u64 0, .int .u64 0, .int .u64 0, .int .u64 0, .int .u64 0, .int .u64 0, .int .u64 0, .slice none 0 0, .slice none 0 0] 45)).heap.size = w.heap.size + 3 := by simp
  obtain ⟨j0, j1, j2, j3, j4⟩ := hins
  simp only at j0 j1 j2 j3 j4
  have hki : (k : Int) < lc := by omega
  have H3 := Lib.hid h3
  have HB3 := Lib.hid hB
  have HZ3 := Lib.hid hz
  have HJ := Lib.hid (And.intro j0 (And.intro j1 (And.intro j2 (And.intro j3 j4))))
  clear h3 hB hz j0 j1 j2 j3 j4
  go_enter Tryd.func20, Tryd.ntmps20
  go_upto_region 1 with (fail)
  generalize (((w.alloc (.cells #[.int .i64 mem, .int .i64 stk, .int .i64 inp, .slice Ad ld cd, .slice Af lf cf, .slice (some ⟨bc, oc, none⟩) lc cc] 26)).alloc (.cells #[.int .i64 (k : Int), .int .u64 z0, .int .u64 z1, .int .u64 z2, .int .u64 z3, .int .u64 z4, .int .u64 z5, .int .u64 z6, .int .u64 z7, .slice MA mn mc, .slice OA on occ] 45)).alloc (.cells #[.int .i64 0, .int .u64 0, .int .u64 0, .int .u64 0, .int .u64 0, .int .u64 0, .int .u64 0, .int .u64 0, .int .u64 0, .slice none 0 0, .slice none 0 0] 45)) = w3 at *
  have j0 := cells_below HB3.out HJ.out.1 hbc
  have j1 := cells_below HB3.out HJ.out.2.1 hbc
  have j2 := cells_below HB3.out HJ.out.2.2.1 hbc
  have j3 := cells_below HB3.out HJ.out.2.2.2.1 hbc
  have j4 := cells_below HB3.out HJ.out.2.2.2.2 hbc
  have q5 := row_cell H3.out.1 5
  have x0 := row_cell H3.out.2.1 0
  simp at q5 x0
  go_upto_region 2 with (fail)
  clear j0 j1 j2 j3 j4 q5 x0 hki
  have hz6 : (w3.alloc (.cells #[.int .i64 19, .int .i64 (a : Int), .int .i64 (b : Int), .int .i64 c, .int .u64 m] 59)).heap.size = w.heap.size + 4 := by have := HZ3.out; simp; omega
  have hb6 := Below.box w3 (.cells #[.int .i64 19, .int .i64 (a : Int), .int .i64 (b : Int), .int .i64 c, .int .u64 m] 59)
  have hB6 : Below w.heap.size w (w3.alloc (.cells #[.int .i64 19, .int .i64 (a : Int), .int .i64 (b : Int), .int .i64 c, .int .u64 m] 59)) := HB3.out.trans (hb6.mono HB3.out.size)
  have h40 := (hb6.block w.heap.size (by have := HZ3.out; omega)).trans H3.out.1
  have h41 := (hb6.block (w.heap.size + 1) (by have := HZ3.out; omega)).trans H3.out.2.1
  have h42 := (hb6.block (w.heap.size + 1 + 1) (by have := HZ3.out; omega)).trans H3.out.2.2
  have h43 : (w3.alloc (.cells #[.int .i64 19, .int .i64 (a : Int), .int .i64 (b : Int), .int .i64 c, .int .u64 m] 59)).heap[w3.heap.size]? = some (.cells #[.int .i64 19, .int .i64 (a : Int), .int .i64 (b : Int), .int .i64 c, .int .u64 m] 59 (0, 0)) := heap_newM rfl
  have hw3 : w3.heap.size = w.heap.size + 1 + 1 + 1 := HZ3.out
  rw [hw3] at h43 ⊢
  have H4 := Lib.hid (And.intro h40 (And.intro h41 (And.intro h42 h43)))
  have HB := Lib.hid hB6
  have HZ := Lib.hid hz6
  clear h40 h41 h42 h43 hB6 hb6 hz6 hw3
  generalize w3.alloc (.cells #[.int .i64 19, .int .i64 (a : Int), .int .i64 (b : Int), .int .i64 c, .int .u64 m] 59) = w6 at *
  have i0 := row_cell H4.out.2.2.2 0
  have i1 := row_cell H4.out.2.2.2 1
  have i2 := row_cell H4.out.2.2.2 2
  have i3 := row_cell H4.out.2.2.2 3
  have i4 := row_cell H4.out.2.2.2 4
  simp at i0 i1 i2 i3 i4
  have cb : w6.cell? ⟨w.heap.size + 1, 1 + b, none⟩ = some (.int .u64 x) := by
    rw [cell_of_row _ _ _ _ _ _ H4.out.2.1]
    exact HXB.out
  go_upto_region 13 with (fail)
  go_quiet (fail)
  have hB7 := below_drewN HB.out nq
  have h70 : (w6.drewN nq).heap[w.heap.size]? = _ := H4.out.1
  have h71 : (w6.drewN nq).heap[w.heap.size + 1]? = _ := H4.out.2.1
  have h72 : (w6.drewN nq).heap[w.heap.size + 1 + 1]? = _ := H4.out.2.2.1
  have h73 : (w6.drewN nq).heap[w.heap.size + 1 + 1 + 1]? = _ := H4.out.2.2.2
  have hz7 : (w6.drewN nq).heap.size = w.heap.size + 4 := HZ.out
  have H4q := Lib.hid (And.intro h70 (And.intro h71 (And.intro h72 h73)))
  have HBq := Lib.hid hB7
  have HZq := Lib.hid hz7
  clear h70 h71 h72 h73 hB7 hz7
  generalize w6.drewN nq = w7 at *
  clear cb i0 i1 i2 i3 i4 e0
  have x0 := row_cell H4q.out.2.1 0
  have x1 := row_cell H4q.out.2.1 1
  have x2 := row_cell H4q.out.2.1 2
  have x3 := row_cell H4q.out.2.1 3
  have x4 := row_cell H4q.out.2.1 4
  have x5 := row_cell H4q.out.2.1 5
  have x6 := row_cell H4q.out.2.1 6
  have x7 := row_cell H4q.out.2.1 7
  have x8 := row_cell H4q.out.2.1 8
  have x9 := row_cell H4q.out.2.1 9
  have x10 := row_cell H4q.out.2.1 10
  simp at x0 x1 x2 x3 x4 x5 x6 x7 x8 x9 x10
  have i0 := row_cell H4q.out.2.2.2 0
  have i1 := row_cell H4q.out.2.2.2 1
  have i2 := row_cell H4q.out.2.2.2 2
  have i3 := row_cell H4q.out.2.2.2 3
  have i4 := row_cell H4q.out.2.2.2 4
  simp at i0 i1 i2 i3 i4
  have hcx := cells_below HBq.out HCX.out.1 HCX.out.2
  go_upto_region 16 with (fail)
  refine quiet_tail 8 (by kernel_rfl) (by kernel_rfl) ?_
  simp only [List.take_succ_cons, List.take_zero, List.drop_succ_cons, List.drop_zero]
  repeat (quiet_step (fail))
  refine wpQuiet_nil ?_
  intro _ hw'
  obtain ⟨nq, hw''⟩ := hw'
  subst hw''
  have hB7 := below_drewN HBq.out nq
  have h70 : (w7.drewN nq).heap[w.heap.size]? = _ := H4q.out.1
  have h71 : (w7.drewN nq).heap[w.heap.size + 1]? = _ := H4q.out.2.1
  have h72 : (w7.drewN nq).heap[w.heap.size + 1 + 1]? = _ := H4q.out.2.2.1
  have h73 : (w7.drewN nq).heap[w.heap.size + 1 + 1 + 1]? = _ := H4q.out.2.2.2
  have hz7 : (w7.drewN nq).heap.size = w.heap.size + 4 := HZq.out
  have H4r := Lib.hid (And.intro h70 (And.intro h71 (And.intro h72 h73)))
  have HBr := Lib.hid hB7
  have HZr := Lib.hid hz7
  clear h70 h71 h72 h73 hB7 hz7
  generalize w7.drewN nq = w8 at *
  clear hcx x0 x1 x2 x3 x4 x5 x6 x7 x8 x9 x10 i0 i1 i2 i3 i4
  go_wp2_with fail
  refine (HWI.out _).mono ?_
  rintro e v ⟨rfl, hb⟩
  have HX2 := Lib.hid ((hb.block _ (by have := HZr.out; omega)).trans H4r.out.2.2.1)
  have HBV := Lib.hid (HBr.out.trans (hb.mono HBr.out.size))
  clear hb 
  go_wp2_with (with_reducible refine store_r (.tmp 6) (.tmp 72) (w.heap.size + 1 + 1) _ V HX2.out rfl rfl rfl rfl rfl (HR.out 0 w).sz (HR.out 0 w).one ?_)
  refine ret_r2 (w.heap.size + 1 + 1) V (.int .i64 0) (setRow_heap _ _ _ _ _ _ HX2.out) (HR.out 0 w).sz rfl rfl rfl rfl ?_
  exact ⟨V, rfl, HR.out _ _, below_setRowM HBV.out (by omega) _⟩

end Go.Proofs.YtfhnigfghfmolaaDoor
namespace Go.Proofs.YtfhnigfghfmolaaDoor
set_option maxRecDepth 100000
open Go.RowKit

set_option maxRecDepth 20000 in
set_option maxHeartbeats 6400000 in
theorem rstep_zero6 (mem stk inp : Int) (Ad : Option Addr) (ld cd : Nat) (Af : Option Addr) (lf cf bc oc lc cc : Nat) (Ai : Option Addr) (li ci k : Nat) (a b : Int) (c : Nat) (hc : c < 8) (m : Int) (z0 z1 z2 z3 z4 z5 z6 z7 : Int) (MA : Option Addr) (mn mc : Nat) (OA : Option Addr) (on occ : Nat) (w : World) (hk : k < lc) (hbc : bc < w.heap.size) (hins : InsAt w bc (oc + k * 5) ⟨6, a, b, (c : Int), m⟩) (hy : (#[.int .i64 (k : Int), .int .u64 z0, .int .u64 z1, .int .u64 z2, .int .u64 z3, .int .u64 z4, .int .u64 z5, .int .u64 z6, .int .u64 z7, .slice MA mn mc, .slice OA on occ] : Array Value)[1 + c]? = some (.int .u64 0)) :
    Calls Tryd.prog 20 #[.agg #[.int .i64 mem, .int .i64 stk, .int .i64 inp, .slice Ad ld cd, .slice Af lf cf, .slice (some ⟨bc, oc, none⟩) lc cc], .slice Ai li ci, .agg #[.int .i64 (k : Int), .int .u64 z0, .int .u64 z1, .int .u64 z2, .int .u64 z3, .int .u64 z4, .int .u64 z5, .int .u64 z6, .int .u64 z7, .slice MA mn mc, .slice OA on occ]] w fun e w' => e = .returned (.tuple #[.agg #[.int .i64 (k : Int), .int .u64 z0, .int .u64 z1, .int .u64 z2, .int .u64 z3, .int .u64 z4, .int .u64 z5, .int .u64 z6, .int .u64 z7, .slice MA mn mc, .slice OA on occ], .int .i64 3]) ∧ Below w.heap.size w w' := by
  have HYC := Lib.hid hy
  have hci : (c : Int) < 8 := by omega
  clear hy hc
  have h3 := three w (.cells #[.int .i64 mem, .int .i64 stk, .int .i64 inp, .slice Ad ld cd, .slice Af lf cf, .slice (some ⟨bc, oc, none⟩) lc cc] 26) (.cells #[.int .i64 (k : Int), .int .u64 z0, .int .u64 z1, .int .u64 z2, .int .u64 z3, .int .u64 z4, .int .u64 z5, .int .u64 z6, .int .u64 z7, .slice MA mn mc, .slice OA on occ] 45) (.cells #[.int .i64 0, .int .u64 0, .int .u64 0, .int .u64 0, .int .u64 0, .int .u64 0, .int .u64 0, .int .u64 0, .int .u64 0, .slice none 0 0, .slice none 0 0] 45)
  have hB : Below w.heap.size w (((w.alloc (.cells #[.int .i64 mem, .int .i64 stk, .int .i64 inp, .slice Ad ld cd, .slice Af lf cf, .slice (some ⟨bc, oc, none⟩) lc cc] 26)).alloc (.cells #[.int .i64 (k : Int), .int .u64 z0, .int .u64 z1, .int .u64 z2, .int .u64 z3, .int .u64 z4, .int .u64 z5, .int .u64 z6, .int .u64 z7, .slice MA mn mc, .slice OA on occ] 45)).alloc (.cells #[.int .i64 0, .int .u64 0, .int .u64 0, .int .u64 0, .int .u64 0, .int .u64 0, .int .u64 0, .int .u64 0, .int .u64 0, .slice none 0 0, .slice none 0 0] 45)) := (((Below.refl _ _).alloc (Nat.le_refl _) _).alloc (by simp) _).alloc (by simp; omega) _
  have hz : (((w.alloc (.cells #[.int .i64 mem, .int .i64 stk, .int .i64 inp, .slice Ad ld cd, .slice Af lf cf, .slice (some ⟨bc, oc, none⟩) lc cc] 26)).alloc (.cells #[.int .i64 (k : Int), .int .u64 z0, .int .u64 z1, .int .u64 z2, .int .u64 z3, .int .u64 z4, .int .u64 z5, .int .u64 z6, .int .u64 z7, .slice MA mn mc, .slice OA on occ] 45)).alloc (.cells #[.int .i64 0, .int .u64 0, .int .u64 0, .int .u64 0, .int .u64 0, .int .u64 0, .int .u64 0, .int .u64 0, .int .u64 0, .slice none 0 0, .slice none 0 0] 45)).heap.size = w.heap.size + 3 := by simp
  obtain ⟨j0, j1, j2, j3, j4⟩ := hins
  simp only at j0 j1 j2 j3 j4
  have hki : (k : Int) < lc := by omega
  have H3 := Lib.hid h3
  have HB3 := Lib.hid hB
  have HZ3 := Lib.hid hz
  have HJ := Lib.hid (And.intro j0 (And.intro j1 (And.intro j2 (And.intro j3 j4))))
  clear h3 hB hz j0 j1 j2 j3 j4
  go_enter Tryd.func20, Tryd.ntmps20
  go_upto_region 1 with (fail)
  generalize (((w.alloc (.cells #[.int .i64 mem, .int .i64 stk, .int .i64 inp, .slice Ad ld cd, .slice Af lf cf, .slice (some ⟨bc, oc, none⟩) lc cc] 26)).alloc (.cells #[.int .i64 (k : Int), .int .u64 z0, .int .u64 z1, .int .u64 z2, .int .u64 z3, .int .u64 z4, .int .u64 z5, .int .u64 z6, .int .u64 z7, .slice MA mn mc, .slice OA on occ] 45)).alloc (.cells #[.int .i64 0, .int .u64 0, .int .u64 0, .int .u64 0, .int .u64 0, .int .u64 0, .int .u64 0, .int .u64 0, .int .u64 0, .slice none 0 0, .slice none 0 0] 45)) = w3 at *
  have j0 := cells_below HB3.out HJ.out.1 hbc
  have j1 := cells_below HB3.out HJ.out.2.1 hbc
  have j2 := cells_below HB3.out HJ.out.2.2.1 hbc
  have j3 := cells_below HB3.out HJ.out.2.2.2.1 hbc
  have j4 := cells_below HB3.out HJ.out.2.2.2.2 hbc
  have q5 := row_cell H3.out.1 5
  have x0 := row_cell H3.out.2.1 0
  simp at q5 x0
  go_upto_region 2 with (fail)
  clear j0 j1 j2 j3 j4 q5 x0 hki
  have hz6 : (w3.alloc (.cells #[.int .i64 6, .int .i64 a, .int .i64 b, .int .i64 (c : Int), .int .u64 m] 59)).heap.size = w.heap.size + 4 := by have := HZ3.out; simp; omega
  have hb6 := Below.box w3 (.cells #[.int .i64 6, .int .i64 a, .int .i64 b, .int .i64 (c : Int), .int .u64 m] 59)
  have hB6 : Below w.heap.size w (w3.alloc (.cells #[.int .i64 6, .int .i64 a, .int .i64 b, .int .i64 (c : Int), .int .u64 m] 59)) := HB3.out.trans (hb6.mono HB3.out.size)
  have h40 := (hb6.block w.heap.size (by have := HZ3.out; omega)).trans H3.out.1
  have h41 := (hb6.block (w.heap.size + 1) (by have := HZ3.out; omega)).trans H3.out.2.1
  have h42 := (hb6.block (w.heap.size + 1 + 1) (by have := HZ3.out; omega)).trans H3.out.2.2
  have h43 : (w3.alloc (.cells #[.int .i64 6, .int .i64 a, .int .i64 b, .int .i64 (c : Int), .int .u64 m] 59)).heap[w3.heap.size]? = some (.cells #[.int .i64 6, .int .i64 a, .int .i64 b, .int .i64 (c : Int), .int .u64 m] 59 (0, 0)) := heap_newM rfl
  have hw3 : w3.heap.size = w.heap.size + 1 + 1 + 1 := HZ3.out
  rw [hw3] at h43 ⊢
  have H4 := Lib.hid (And.intro h40 (And.intro h41 (And.intro h42 h43)))
  have HB := Lib.hid hB6
  have HZ := Lib.hid hz6
  clear h40 h41 h42 h43 hB6 hb6 hz6 hw3
  generalize w3.alloc (.cells #[.int .i64 6, .int .i64 a, .int .i64 b, .int .i64 (c : Int), .int .u64 m] 59) = w6 at *
  have i0 := row_cell H4.out.2.2.2 0
  have i1 := row_cell H4.out.2.2.2 1
  have i2 := row_cell H4.out.2.2.2 2
  have i3 := row_cell H4.out.2.2.2 3
  have i4 := row_cell H4.out.2.2.2 4
  simp at i0 i1 i2 i3 i4
  have cc : w6.cell? ⟨w.heap.size + 1, 1 + c, none⟩ = some (.int .u64 0) := by
    rw [cell_of_row _ _ _ _ _ _ H4.out.2.1]
    exact HYC.out
  have x0 := row_cell H4.out.2.1 0
  have x1 := row_cell H4.out.2.1 1
  have x2 := row_cell H4.out.2.1 2
  have x3 := row_cell H4.out.2.1 3
  have x4 := row_cell H4.out.2.1 4
  have x5 := row_cell H4.out.2.1 5
  have x6 := row_cell H4.out.2.1 6
  have x7 := row_cell H4.out.2.1 7
  have x8 := row_cell H4.out.2.1 8
  have x9 := row_cell H4.out.2.1 9
  have x10 := row_cell H4.out.2.1 10
  simp at x0 x1 x2 x3 x4 x5 x6 x7 x8 x9 x10
  have h1c : (#[.int .i64 (k : Int), .int .u64 z0, .int .u64 z1, .int .u64 z2, .int .u64 z3, .int .u64 z4, .int .u64 z5, .int .u64 z6, .int .u64 z7, .slice MA mn mc, .slice OA on occ] : Array Value).all (·.oneCell') = true := by simp [Value.oneCell']
  have H1C := Lib.hid h1c
  clear h1c
  go_wp2_with (with_reducible refine store_r (.tmp 6) _ (w.heap.size + 1 + 1) _ #[.int .i64 (k : Int), .int .u64 z0, .int .u64 z1, .int .u64 z2, .int .u64 z3, .int .u64 z4, .int .u64 z5, .int .u64 z6, .int .u64 z7, .slice MA mn mc, .slice OA on occ] H4.out.2.2.1 rfl rfl rfl rfl rfl rfl H1C.out ?_)
  refine ret_r2 (w.heap.size + 1 + 1) #[.int .i64 (k : Int), .int .u64 z0, .int .u64 z1, .int .u64 z2, .int .u64 z3, .int .u64 z4, .int .u64 z5, .int .u64 z6, .int .u64 z7, .slice MA mn mc, .slice OA on occ] (.int .i64 3) (setRow_heap _ _ _ _ _ _ H4.out.2.2.1) rfl rfl rfl rfl rfl ?_
  exact ⟨rfl, below_setRowM HB.out (by omega) _⟩

set_option maxRecDepth 20000 in
set_option maxHeartbeats 6400000 in
theorem rstep_zero7 (mem stk inp : Int) (Ad : Option Addr) (ld cd : Nat) (Af : Option Addr) (lf cf bc oc lc cc : Nat) (Ai : Option Addr) (li ci k : Nat) (a b : Int) (c : Nat) (hc : c < 8) (m : Int) (z0 z1 z2 z3 z4 z5 z6 z7 : Int) (MA : Option Addr) (mn mc : Nat) (OA : Option Addr) (on occ : Nat) (w : World) (hk : k < lc) (hbc : bc < w.heap.size) (hins : InsAt w bc (oc + k * 5) ⟨7, a, b, (c : Int), m⟩) (hy : (#[.int .i64 (k : Int), .int .u64 z0, .int .u64 z1, .int .u64 z2, .int .u64 z3, .int .u64 z4, .int .u64 z5, .int .u64 z6, .int .u64 z7, .slice MA mn mc, .slice OA on occ] : Array Value)[1 + c]? = some (.int .u64 0)) :
    Calls Tryd.prog 20 #[.agg #[.int .i64 mem, .int .i64 stk, .int .i64 inp, .slice Ad ld cd, .slice Af lf cf, .slice (some ⟨bc, oc, none⟩) lc cc], .slice Ai li ci, .agg #[.int .i64 (k : Int), .int .u64 z0, .int .u64 z1, .int .u64 z2, .int .u64 z3, .int .u64 z4, .int .u64 z5, .int .u64 z6, .int .u64 z7, .slice MA mn mc, .slice OA on occ]] w fun e w' => e = .returned (.tuple #[.agg #[.int .i64 (k : Int), .int .u64 z0, .int .u64 z1, .int .u64 z2, .int .u64 z3, .int .u64 z4, .int .u64 z5, .int .u64 z6, .int .u64 z7, .slice MA mn mc, .slice OA on occ], .int .i64 3]) ∧ Below w.heap.size w w' := by
  have HYC := Lib.hid hy
  have hci : (c : Int) < 8 := by omega
  clear hy hc
  have h3 := three w (.cells #[.int .i64 mem, .int .i64 stk, .int .i64 inp, .slice Ad ld cd, .slice Af lf cf, .slice (some ⟨bc, oc, none⟩) lc cc] 26) (.cells #[.int .i64 (k : Int), .int .u64 z0, .int .u64 z1, .int .u64 z2, .int .u64 z3, .int .u64 z4, .int .u64 z5, .int .u64 z6, .int .u64 z7, .slice MA mn mc, .slice OA on occ] 45) (.cells #[.int .i64 0, .int .u64 0, .int .u64 0, .int .u64 0, .int .u64 0, .int .u64 0, .int .u64 0, .int .u64 0, .int .u64 0, .slice none 0 0, .slice none 0 0] 45)
  have hB : Below w.heap.size w (((w.alloc (.cells #[.int .i64 mem, .int .i64 stk, .int .i64 inp, .slice Ad ld cd, .slice Af lf cf, .slice (some ⟨bc, oc, none⟩) lc cc] 26)).alloc (.cells #[.int .i64 (k : Int), .int .u64 z0, .int .u64 z1, .int .u64 z2, .int .u64 z3, .int .u64 z4, .int .u64 z5, .int .u64 z6, .int .u64 z7, .slice MA mn mc, .slice OA on occ] 45)).alloc (.cells #[.int .i64 0, .int .u64 0, .int .u64 0, .int .u64 0, .int .u64 0, .int .u64 0, .int .u64 0, .int .u64 0, .int .u64 0, .slice none 0 0, .slice none 0 0] 45)) := (((Below.refl _ _).alloc (Nat.le_refl _) _).alloc (by simp) _).alloc (by simp; omega) _
  have hz : (((w.alloc (.cells #[.int .i64 mem, .int .i64 stk, .int .i64 inp, .slice Ad ld cd, .slice Af lf cf, .slice (some ⟨bc, oc, none⟩) lc cc] 26)).alloc (.cells #[.int .i64 (k : Int), .int .u64 z0, .int .u64 z1, .int .u64 z2, .int .u64 z3, .int .u64 z4, .int .u64 z5, .int .u64 z6, .int .u64 z7, .slice MA mn mc, .slice OA on occ] 45)).alloc (.cells #[.int .i64 0, .int .u64 0, .int .u64 0, .int .u64 0, .int .u64 0, .int .u64 0, .int .u64 0, .int .u64 0, .int .u64 0, .slice none 0 0, .slice none 0 0] 45)).heap.size = w.heap.size + 3 := by simp
  obtain ⟨j0, j1, j2, j3, j4⟩ := hins
  simp only at j0 j1 j2 j3 j4
  have hki : (k : Int) < lc := by omega
  have H3 := Lib.hid h3
  have HB3 := Lib.hid hB
  have HZ3 := Lib.hid hz
  have HJ := Lib.hid (And.intro j0 (And.intro j1 (And.intro j2 (And.intro j3 j4))))
  clear h3 hB hz j0 j1 j2 j3 j4
  go_enter Tryd.func20, Tryd.ntmps20
  go_upto_region 1 with (fail)
  generalize (((w.alloc (.cells #[.int .i64 mem, .int .i64 stk, .int .i64 inp, .slice Ad ld cd, .slice Af lf cf, .slice (some ⟨bc, oc, none⟩) lc cc] 26)).alloc (.cells #[.int .i64 (k : Int), .int .u64 z0, .int .u64 z1, .int .u64 z2, .int .u64 z3, .int .u64 z4, .int .u64 z5, .int .u64 z6, .int .u64 z7, .slice MA mn mc, .slice OA on occ] 45)).alloc (.cells #[.int .i64 0, .int .u64 0, .int .u64 0, .int .u64 0, .int .u64 0, .int .u64 0, .int .u64 0, .int .u64 0, .int .u64 0, .slice none 0 0, .slice none 0 0] 45)) = w3 at *
  have j0 := cells_below HB3.out HJ.out.1 hbc
  have j1 := cells_below HB3.out HJ.out.2.1 hbc
  have j2 := cells_below HB3.out HJ.out.2.2.1 hbc
  have j3 := cells_below HB3.out HJ.out.2.2.2.1 hbc
  have j4 := cells_below HB3.out HJ.out.2.2.2.2 hbc
  have q5 := row_cell H3.out.1 5
  have x0 := row_cell H3.out.2.1 0
  simp at q5 x0
  go_upto_region 2 with (fail)
  clear j0 j1 j2 j3 j4 q5 x0 hki
  have hz6 : (w3.alloc (.cells #[.int .i64 7, .int .i64 a, .int .i64 b, .int .i64 (c : Int), .int .u64 m] 59)).heap.size = w.heap.size + 4 := by have := HZ3.out; simp; omega
  have hb6 := Below.box w3 (.cells #[.int .i64 7, .int .i64 a, .int .i64 b, .int .i64 (c : Int), .int .u64 m] 59)
  have hB6 : Below w.heap.size w (w3.alloc (.cells #[.int .i64 7, .int .i64 a, .int .i64 b, .int .i64 (c : Int), .int .u64 m] 59)) := HB3.out.trans (hb6.mono HB3.out.size)
  have h40 := (hb6.block w.heap.size (by have := HZ3.out; omega)).trans H3.out.1
  have h41 := (hb6.block (w.heap.size + 1) (by have := HZ3.out; omega)).trans H3.out.2.1
  have h42 := (hb6.block (w.heap.size + 1 + 1) (by have := HZ3.out; omega)).trans H3.out.2.2
  have h43 : (w3.alloc (.cells #[.int .i64 7, .int .i64 a, .int .i64 b, .int .i64 (c : Int), .int .u64 m] 59)).heap[w3.heap.size]? = some (.cells #[.int .i64 7, .int .i64 a, .int .i64 b, .int .i64 (c : Int), .int .u64 m] 59 (0, 0)) := heap_newM rfl
  have hw3 : w3.heap.size = w.heap.size + 1 + 1 + 1 := HZ3.out
  rw [hw3] at h43 ⊢
  have H4 := Lib.hid (And.intro h40 (And.intro h41 (And.intro h42 h43)))
  have HB := Lib.hid hB6
  have HZ := Lib.hid hz6
  clear h40 h41 h42 h43 hB6 hb6 hz6 hw3
  generalize w3.alloc (.cells #[.int .i64 7, .int .i64 a, .int .i64 b, .int .i64 (c : Int), .int .u64 m] 59) = w6 at *
  have i0 := row_cell H4.out.2.2.2 0
  have i1 := row_cell H4.out.2.2.2 1
  have i2 := row_cell H4.out.2.2.2 2
  have i3 := row_cell H4.out.2.2.2 3
  have i4 := row_cell H4.out.2.2.2 4
  simp at i0 i1 i2 i3 i4
  have cc : w6.cell? ⟨w.heap.size + 1, 1 + c, none⟩ = some (.int .u64 0) := by
    rw [cell_of_row _ _ _ _ _ _ H4.out.2.1]
    exact HYC.out
  have x0 := row_cell H4.out.2.1 0
  have x1 := row_cell H4.out.2.1 1
  have x2 := row_cell H4.out.2.1 2
  have x3 := row_cell H4.out.2.1 3
  have x4 := row_cell H4.out.2.1 4
  have x5 := row_cell H4.out.2.1 5
  have x6 := row_cell H4.out.2.1 6
  have x7 := row_cell H4.out.2.1 7
  have x8 := row_cell H4.out.2.1 8
  have x9 := row_cell H4.out.2.1 9
  have x10 := row_cell H4.out.2.1 10
  simp at x0 x1 x2 x3 x4 x5 x6 x7 x8 x9 x10
  have h1c : (#[.int .i64 (k : Int), .int .u64 z0, .int .u64 z1, .int .u64 z2, .int .u64 z3, .int .u64 z4, .int .u64 z5, .int .u64 z6, .int .u64 z7, .slice MA mn mc, .slice OA on occ] : Array Value).all (·.oneCell') = true := by simp [Value.oneCell']
  have H1C := Lib.hid h1c
  clear h1c
  go_wp2_with (with_reducible refine store_r (.tmp 6) _ (w.heap.size + 1 + 1) _ #[.int .i64 (k : Int), .int .u64 z0, .int .u64 z1, .int .u64 z2, .int .u64 z3, .int .u64 z4, .int .u64 z5, .int .u64 z6, .int .u64 z7, .slice MA mn mc, .slice OA on occ] H4.out.2.2.1 rfl rfl rfl rfl rfl rfl H1C.out ?_)
  refine ret_r2 (w.heap.size + 1 + 1) #[.int .i64 (k : Int), .int .u64 z0, .int .u64 z1, .int .u64 z2, .int .u64 z3, .int .u64 z4, .int .u64 z5, .int .u64 z6, .int .u64 z7, .slice MA mn mc, .slice OA on occ] (.int .i64 3) (setRow_heap _ _ _ _ _ _ H4.out.2.2.1) rfl rfl rfl rfl rfl ?_
  exact ⟨rfl, below_setRowM HB.out (by omega) _⟩

set_option maxRecDepth 20000 in
set_option maxHeartbeats 6400000 in
theorem rstep_app6 (mem stk inp : Int) (Ad : Option Addr) (ld cd : Nat) (Af : Option Addr) (lf cf bc oc lc cc : Nat) (Ai : Option Addr) (li ci k : Nat) (n : Int) (a : Nat) (ha : a < 8) (mm op : List Int) (b c : Nat) (hb : b < 8) (hc : c < 8) (m : Int) (x y : Nat) (z0 z1 z2 z3 z4 z5 z6 z7 : Int) (MA : Option Addr) (mn mc : Nat) (OA : Option Addr) (on occ : Nat) (w : World) (hk : k < lc) (hbc : bc < w.heap.size) (hins : InsAt w bc (oc + k * 5) ⟨n, (a : Int), (b : Int), (c : Int), m⟩) (hml : mm.length = mn) (hol : op.length = on) (hkM : k < 1000000) (hx : (#[.int .i64 (k : Int), .int .u64 z0, .int .u64 z1, .int .u64 z2, .int .u64 z3, .int .u64 z4, .int .u64 z5, .int .u64 z6, .int .u64 z7, .slice MA mn mc, .slice OA on occ] : Array Value)[1 + b]? = some (.int .u64 (x : Int))) (hy : (#[.int .i64 (k : Int), .int .u64 z0, .int .u64 z1, .int .u64 z2, .int .u64 z3, .int .u64 z4, .int .u64 z5, .int .u64 z6, .int .u64 z7, .slice MA mn mc, .slice OA on occ] : Array Value)[1 + c]? = some (.int .u64 (y : Int))) (hxl : x < 18446744073709551616) (hyl : y < 18446744073709551616) (n0 : (n == 0) = false) (n1 : (n == 1) = false) (n2 : (n == 2) = false) (n17 : (n == 17) = false) (n18 : (n == 18) = false) (n19 : (n == 19) = false) (n20 : (n == 20) = false) (n21 : (n == 21) = false) (n22 : (n == 22) = false) (n23 : (n == 23) = false) (n24 : (n == 24) = false) (n25 : (n == 25) = false) (m0 : 0 ≤ n) (m1 : n < 26) (n6 : (n == 6) = true) (hy0 : ((y : Int) == 0) = false) :
    Calls Tryd.prog 20 #[.agg #[.int .i64 mem, .int .i64 stk, .int .i64 inp, .slice Ad ld cd, .slice Af lf cf, .slice (some ⟨bc, oc, none⟩) lc cc], .slice Ai li ci, .agg #[.int .i64 (k : Int), .int .u64 z0, .int .u64 z1, .int .u64 z2, .int .u64 z3, .int .u64 z4, .int .u64 z5, .int .u64 z6, .int .u64 z7, .slice MA mn mc, .slice OA on occ]] w fun e w' => SubR ⟨(k : Int), [z0, z1, z2, z3, z4, z5, z6, z7], mm, op⟩ ⟨(k : Int) + 1, [z0, z1, z2, z3, z4, z5, z6, z7].set a (Wd.app (n + 5) 64 (x : Int) (y : Int)), mm, op⟩ MA mc OA occ 0 w e w' := by
  have hap : ∀ W, Calls Tryd.prog 40 #[.int .i64 (n + 5), .int .i64 64, .int .u64 (x : Int), .int .u64 (y : Int)] W fun e w' => e = .returned (.int .u64 (Wd.app (n + 5) 64 (x : Int) (y : Int))) ∧ Below W.heap.size W w' := fun W => rapply_any (n + 5) 64 x y hxl hyl W
  generalize (Wd.app (n + 5) 64 (x : Int) (y : Int)) = u at *
  have HAP := Lib.hid hap
  clear hap hxl hyl
  have hwi : ∀ W, Calls Tryd.prog 37 #[.agg #[.int .i64 (k : Int), .int .u64 z0, .int .u64 z1, .int .u64 z2, .int .u64 z3, .int .u64 z4, .int .u64 z5, .int .u64 z6, .int .u64 z7, .slice MA mn mc, .slice OA on occ], .int .i64 a, .int .u64 u] W fun e w' => e = .returned (.agg (stC ⟨(k : Int) + 1, [z0, z1, z2, z3, z4, z5, z6, z7].set a u, mm, op⟩ (.slice MA mn mc) (.slice OA on occ))) ∧ Below W.heap.size W w' := fun W => rwith_any a ha ⟨(k : Int), [z0, z1, z2, z3, z4, z5, z6, z7], mm, op⟩ rfl MA mn mc OA on occ u W (by show (0 : Int) ≤ (k : Int); omega) (by show (k : Int) < 1000000; omega)
  have hrs : ∀ b v, ResR b v ⟨(k : Int), [z0, z1, z2, z3, z4, z5, z6, z7], mm, op⟩ ⟨(k : Int) + 1, [z0, z1, z2, z3, z4, z5, z6, z7].set a u, mm, op⟩ MA mc OA occ (stC ⟨(k : Int) + 1, [z0, z1, z2, z3, z4, z5, z6, z7].set a u, mm, op⟩ (.slice MA mn mc) (.slice OA on occ)) := fun b v => ⟨MA, mc, OA, occ, by rw [← hml, ← hol], .inl ⟨rfl, rfl, rfl⟩, .inl ⟨rfl, rfl, rfl⟩⟩
  generalize stC ⟨(k : Int) + 1, [z0, z1, z2, z3, z4, z5, z6, z7].set a u, mm, op⟩ (.slice MA mn mc) (.slice OA on occ) = V at *
  have HWI := Lib.hid hwi
  have HR := Lib.hid hrs
  clear hwi hrs hkM hml hol ha
  have HXB := Lib.hid hx
  have HYC := Lib.hid hy
  have hbi : (b : Int) < 8 := by omega
  have hci : (c : Int) < 8 := by omega
  have hw5 : IntKind.i64.wrap (n + 5) = n + 5 := by rw [IntKind.wrap_i64]; omega
  clear m0 m1
  clear hx hy hb hc
  have h3 := three w (.cells #[.int .i64 mem, .int .i64 stk, .int .i64 inp, .slice Ad ld cd, .slice Af lf cf, .slice (some ⟨bc, oc, none⟩) lc cc] 26) (.cells #[.int .i64 (k : Int), .int .u64 z0, .int .u64 z1, .int .u64 z2, .int .u64 z3, .int .u64 z4, .int .u64 z5, .int .u64 z6, .int .u64 z7, .slice MA mn mc, .slice OA on occ] 45) (.cells #[.int .i64 0, .int .u64 0, .int .u64 0, .int .u64 0, .int .u64 0, .int .u64 0, .int .u64 0, .int .u64 0, .int .u64 0, .slice none 0 0, .slice none 0 0] 45)
  have hB : Below w.heap.size w (((w.alloc (.cells #[.int .i64 mem, .int .i64 stk, .int .i64 inp, .slice Ad ld cd, .slice Af lf cf, .slice (some ⟨bc, oc, none⟩) lc cc] 26)).alloc (.cells #[.int .i64 (k : Int), .int .u64 z0, .int .u64 z1, .int .u64 z2, .int .u64 z3, .int .u64 z4, .int .u64 z5, .int .u64 z6, .int .u64 z7, .slice MA mn mc, .slice OA on occ] 45)).alloc (.cells #[.int .i64 0, .int .u64 0, .int .u64 0, .int .u64 0, .int .u64 0, .int .u64 0, .int .u64 0, .int .u64 0, .int .u64 0, .slice none 0 0, .slice none 0 0] 45)) := (((Below.refl _ _).alloc (Nat.le_refl _) _).alloc (by simp) _).alloc (by simp; omega) _
  have hz : (((w.alloc (.cells #[.int .i64 mem, .int .i64 stk, .int .i64 inp, .slice Ad ld cd, .slice Af lf cf, .slice (some ⟨bc, oc, none⟩) lc cc] 26)).alloc (.cells #[.int .i64 (k : Int), .int .u64 z0, .int .u64 z1, .int .u64 z2, .int .u64 z3, .int .u64 z4, .int .u64 z5, .int .u64 z6, .int .u64 z7, .slice MA mn mc, .slice OA on occ] 45)).alloc (.cells #[.int .i64 0, .int .u64 0, .int .u64 0, .int .u64 0, .int .u64 0, .int .u64 0, .int .u64 0, .int .u64 0, .int .u64 0, .slice none 0 0, .slice none 0 0] 45)).heap.size = w.heap.size + 3 := by simp
  obtain ⟨j0, j1, j2, j3, j4⟩ := hins
  simp only at j0 j1 j2 j3 j4
  have hki : (k : Int) < lc := by omega
  have H3 := Lib.hid h3
  have HB3 := Lib.hid hB
  have HZ3 := Lib.hid hz
  have HJ := Lib.hid (And.intro j0 (And.intro j1 (And.intro j2 (And.intro j3 j4))))
  clear h3 hB hz j0 j1 j2 j3 j4
  go_enter Tryd.func20, Tryd.ntmps20
  go_upto_region 1 with (fail)
  generalize (((w.alloc (.cells #[.int .i64 mem, .int .i64 stk, .int .i64 inp, .slice Ad ld cd, .slice Af lf cf, .slice (some ⟨bc, oc, none⟩) lc cc] 26)).alloc (.cells #[.int .i64 (k : Int), .int .u64 z0, .int .u64 z1, .int .u64 z2, .int .u64 z3, .int .u64 z4, .int .u64 z5, .int .u64 z6, .int .u64 z7, .slice MA mn mc, .slice OA on occ] 45)).alloc (.cells #[.int .i64 0, .int .u64 0, .int .u64 0, .int .u64 0, .int .u64 0, .int .u64 0, .int .u64 0, .int .u64 0, .int .u64 0, .slice none 0 0, .slice none 0 0] 45)) = w3 at *
  have j0 := cells_below HB3.out HJ.out.1 hbc
  have j1 := cells_below HB3.out HJ.out.2.1 hbc
  have j2 := cells_below HB3.out HJ.out.2.2.1 hbc
  have j3 := cells_below HB3.out HJ.out.2.2.2.1 hbc
  have j4 := cells_below HB3.out HJ.out.2.2.2.2 hbc
  have q5 := row_cell H3.out.1 5
  have x0 := row_cell H3.out.2.1 0
  simp at q5 x0
  go_upto_region 2 with (fail)
  clear j0 j1 j2 j3 j4 q5 x0 hki
  have hz6 : (w3.alloc (.cells #[.int .i64 n, .int .i64 (a : Int), .int .i64 (b : Int), .int .i64 (c : Int), .int .u64 m] 59)).heap.size = w.heap.size + 4 := by have := HZ3.out; simp; omega
  have hb6 := Below.box w3 (.cells #[.int .i64 n, .int .i64 (a : Int), .int .i64 (b : Int), .int .i64 (c : Int), .int .u64 m] 59)
  have hB6 : Below w.heap.size w (w3.alloc (.cells #[.int .i64 n, .int .i64 (a : Int), .int .i64 (b : Int), .int .i64 (c : Int), .int .u64 m] 59)) := HB3.out.trans (hb6.mono HB3.out.size)
  have h40 := (hb6.block w.heap.size (by have := HZ3.out; omega)).trans H3.out.1
  have h41 := (hb6.block (w.heap.size + 1) (by have := HZ3.out; omega)).trans H3.out.2.1
  have h42 := (hb6.block (w.heap.size + 1 + 1) (by have := HZ3.out; omega)).trans H3.out.2.2
  have h43 : (w3.alloc (.cells #[.int .i64 n, .int .i64 (a : Int), .int .i64 (b : Int), .int .i64 (c : Int), .int .u64 m] 59)).heap[w3.heap.size]? = some (.cells #[.int .i64 n, .int .i64 (a : Int), .int .i64 (b : Int), .int .i64 (c : Int), .int .u64 m] 59 (0, 0)) := heap_newM rfl
  have hw3 : w3.heap.size = w.heap.size + 1 + 1 + 1 := HZ3.out
  rw [hw3] at h43 ⊢
  have H4 := Lib.hid (And.intro h40 (And.intro h41 (And.intro h42 h43)))
  have HB := Lib.hid hB6
  have HZ := Lib.hid hz6
  clear h40 h41 h42 h43 hB6 hb6 hz6 hw3
  generalize w3.alloc (.cells #[.int .i64 n, .int .i64 (a : Int), .int .i64 (b : Int), .int .i64 (c : Int), .int .u64 m] 59) = w6 at *
  have i0 := row_cell H4.out.2.2.2 0
  have i1 := row_cell H4.out.2.2.2 1
  have i2 := row_cell H4.out.2.2.2 2
  have i3 := row_cell H4.out.2.2.2 3
  have i4 := row_cell H4.out.2.2.2 4
  simp at i0 i1 i2 i3 i4
  have cb : w6.cell? ⟨w.heap.size + 1, 1 + b, none⟩ = some (.int .u64 (x : Int)) := by
    rw [cell_of_row _ _ _ _ _ _ H4.out.2.1]
    exact HXB.out
  have cc : w6.cell? ⟨w.heap.size + 1, 1 + c, none⟩ = some (.int .u64 (y : Int)) := by
    rw [cell_of_row _ _ _ _ _ _ H4.out.2.1]
    exact HYC.out
  go_upto_region 28 with (fail)
  have CBC := Lib.hid (And.intro cb cc)
  clear cb cc i0 i1 i2 i3 i4
  refine held_tail (S := fun W => Below w6.heap.size w6 W) 17 (by kernel_rfl) (by simp) (Below.refl _ _).drew (fun hHeld => ?_)
  refine headS_take (i := 0) (v := .agg #[.int .i64 (k : Int), .int .u64 z0, .int .u64 z1, .int .u64 z2, .int .u64 z3, .int .u64 z4, .int .u64 z5, .int .u64 z6, .int .u64 z7, .slice MA mn mc, .slice OA on occ]) rfl (by kernel_rfl) (fun _ _ _ h => h) (Or.inl ⟨by rfl, fun w9 hSw => ?_⟩) hHeld ?_
  · (try dsimp only at hSw)
    have x0 : w9.cell? ⟨w.heap.size + 1, 0, none⟩ = some (.int .i64 (k : Int)) := cells_below hSw (row_cell H4.out.2.1 0) (by have := HZ.out; omega)
    have x1 : w9.cell? ⟨w.heap.size + 1, 1, none⟩ = some (.int .u64 z0) := cells_below hSw (row_cell H4.out.2.1 1) (by have := HZ.out; omega)
    have x2 : w9.cell? ⟨w.heap.size + 1, 2, none⟩ = some (.int .u64 z1) := cells_below hSw (row_cell H4.out.2.1 2) (by have := HZ.out; omega)
    have x3 : w9.cell? ⟨w.heap.size + 1, 3, none⟩ = some (.int .u64 z2) := cells_below hSw (row_cell H4.out.2.1 3) (by have := HZ.out; omega)
    have x4 : w9.cell? ⟨w.heap.size + 1, 4, none⟩ = some (.int .u64 z3) := cells_below hSw (row_cell H4.out.2.1 4) (by have := HZ.out; omega)
    have x5 : w9.cell? ⟨w.heap.size + 1, 5, none⟩ = some (.int .u64 z4) := cells_below hSw (row_cell H4.out.2.1 5) (by have := HZ.out; omega)
    have x6 : w9.cell? ⟨w.heap.size + 1, 6, none⟩ = some (.int .u64 z5) := cells_below hSw (row_cell H4.out.2.1 6) (by have := HZ.out; omega)
    have x7 : w9.cell? ⟨w.heap.size + 1, 7, none⟩ = some (.int .u64 z6) := cells_below hSw (row_cell H4.out.2.1 7) (by have := HZ.out; omega)
    have x8 : w9.cell? ⟨w.heap.size + 1, 8, none⟩ = some (.int .u64 z7) := cells_below hSw (row_cell H4.out.2.1 8) (by have := HZ.out; omega)
    have x9 : w9.cell? ⟨w.heap.size + 1, 9, none⟩ = some (.slice MA mn mc) := cells_below hSw (row_cell H4.out.2.1 9) (by have := HZ.out; omega)
    have x10 : w9.cell? ⟨w.heap.size + 1, 10, none⟩ = some (.slice OA on occ) := cells_below hSw (row_cell H4.out.2.1 10) (by have := HZ.out; omega)
    go_simp
  try simp only [List.getElem_toArray, List.getElem_cons_succ, List.getElem_cons_zero, Act.put, List.setIfInBounds_toArray, List.set_cons_zero, List.set_cons_succ]
  refine headS_take (i := 1) (v := .pointer (some ⟨w.heap.size + 1 + 1 + 1, 1, none⟩)) rfl (by kernel_rfl) (fun _ _ _ h => h) (Or.inl ⟨by rfl, fun w9 hSw => ?_⟩) hHeld ?_
  · (try dsimp only at hSw)
    go_simp
  try simp only [List.getElem_toArray, List.getElem_cons_succ, List.getElem_cons_zero, Act.put, List.setIfInBounds_toArray, List.set_cons_zero, List.set_cons_succ]
  refine headS_take (i := 2) (v := .int .i64 (a : Int)) rfl (by kernel_rfl) (fun _ _ _ h => h) (Or.inl ⟨by rfl, fun w9 hSw => ?_⟩) hHeld ?_
  · (try dsimp only at hSw)
    have i1 : w9.cell? ⟨w.heap.size + 1 + 1 + 1, 1, none⟩ = some (.int .i64 (a : Int)) := cells_below hSw (row_cell H4.out.2.2.2 1) (by have := HZ.out; omega)
    go_simp
  try simp only [List.getElem_toArray, List.getElem_cons_succ, List.getElem_cons_zero, Act.put, List.setIfInBounds_toArray, List.set_cons_zero, List.set_cons_succ]
  refine headS_take (i := 3) (v := .pointer (some ⟨w.heap.size + 1 + 1 + 1, 0, none⟩)) rfl (by kernel_rfl) (fun _ _ _ h => h) (Or.inl ⟨by rfl, fun w9 hSw => ?_⟩) hHeld ?_
  · (try dsimp only at hSw)
    go_simp
  try simp only [List.getElem_toArray, List.getElem_cons_succ, List.getElem_cons_zero, Act.put, List.setIfInBounds_toArray, List.set_cons_zero, List.set_cons_succ]
  refine headS_take (i := 4) (v := .int .i64 n) rfl (by kernel_rfl) (fun _ _ _ h => h) (Or.inl ⟨by rfl, fun w9 hSw => ?_⟩) hHeld ?_
  · (try dsimp only at hSw)
    have i0 : w9.cell? ⟨w.heap.size + 1 + 1 + 1, 0, none⟩ = some (.int .i64 n) := cells_below hSw (row_cell H4.out.2.2.2 0) (by have := HZ.out; omega)
    go_simp
  try simp only [List.getElem_toArray, List.getElem_cons_succ, List.getElem_cons_zero, Act.put, List.setIfInBounds_toArray, List.set_cons_zero, List.set_cons_succ]
  refine headS_take (i := 5) (v := .int .i64 (n + 5)) rfl (by kernel_rfl) (fun _ _ _ h => h) (Or.inl ⟨by rfl, fun w9 hSw => ?_⟩) hHeld ?_
  · (try dsimp only at hSw)
    go_simp
  try simp only [List.getElem_toArray, List.getElem_cons_succ, List.getElem_cons_zero, Act.put, List.setIfInBounds_toArray, List.set_cons_zero, List.set_cons_succ]
  refine headS_take (i := 6) (v := .pointer (some ⟨w.heap.size + 1 + 1 + 1, 2, none⟩)) rfl (by kernel_rfl) (fun _ _ _ h => h) (Or.inl ⟨by rfl, fun w9 hSw => ?_⟩) hHeld ?_
  · (try dsimp only at hSw)
    go_simp
  try simp only [List.getElem_toArray, List.getElem_cons_succ, List.getElem_cons_zero, Act.put, List.setIfInBounds_toArray, List.set_cons_zero, List.set_cons_succ]
  refine headS_take (i := 7) (v := .int .i64 (b : Int)) rfl (by kernel_rfl) (fun _ _ _ h => h) (Or.inl ⟨by rfl, fun w9 hSw => ?_⟩) hHeld ?_
  · (try dsimp only at hSw)
    have i2 : w9.cell? ⟨w.heap.size + 1 + 1 + 1, 2, none⟩ = some (.int .i64 (b : Int)) := cells_below hSw (row_cell H4.out.2.2.2 2) (by have := HZ.out; omega)
    go_simp
  try simp only [List.getElem_toArray, List.getElem_cons_succ, List.getElem_cons_zero, Act.put, List.setIfInBounds_toArray, List.set_cons_zero, List.set_cons_succ]
  refine headS_take (i := 8) (v := .pointer (some ⟨w.heap.size + 1, 1, none⟩)) rfl (by kernel_rfl) (fun _ _ _ h => h) (Or.inl ⟨by rfl, fun w9 hSw => ?_⟩) hHeld ?_
  · (try dsimp only at hSw)
    go_simp
  try simp only [List.getElem_toArray, List.getElem_cons_succ, List.getElem_cons_zero, Act.put, List.setIfInBounds_toArray, List.set_cons_zero, List.set_cons_succ]
  refine headS_take (i := 9) (v := .pointer (some ⟨w.heap.size + 1, 1 + b, none⟩)) rfl (by kernel_rfl) (fun _ _ _ h => h) (Or.inl ⟨by rfl, fun w9 hSw => ?_⟩) hHeld ?_
  · (try dsimp only at hSw)
    go_simp
  try simp only [List.getElem_toArray, List.getElem_cons_succ, List.getElem_cons_zero, Act.put, List.setIfInBounds_toArray, List.set_cons_zero, List.set_cons_succ]
  refine headS_take (i := 10) (v := .int .u64 (x : Int)) rfl (by kernel_rfl) (fun _ _ _ h => h) (Or.inl ⟨by rfl, fun w9 hSw => ?_⟩) hHeld ?_
  · (try dsimp only at hSw)
    have cb := cells_below hSw CBC.out.1 (by have := HZ.out; show w.heap.size + 1 < _; omega)
    go_simp
  try simp only [List.getElem_toArray, List.getElem_cons_succ, List.getElem_cons_zero, Act.put, List.setIfInBounds_toArray, List.set_cons_zero, List.set_cons_succ]
  refine headS_take (i := 11) (v := .pointer (some ⟨w.heap.size + 1 + 1 + 1, 3, none⟩)) rfl (by kernel_rfl) (fun _ _ _ h => h) (Or.inl ⟨by rfl, fun w9 hSw => ?_⟩) hHeld ?_
  · (try dsimp only at hSw)
    go_simp
  try simp only [List.getElem_toArray, List.getElem_cons_succ, List.getElem_cons_zero, Act.put, List.setIfInBounds_toArray, List.set_cons_zero, List.set_cons_succ]
  refine headS_take (i := 12) (v := .int .i64 (c : Int)) rfl (by kernel_rfl) (fun _ _ _ h => h) (Or.inl ⟨by rfl, fun w9 hSw => ?_⟩) hHeld ?_
  · (try dsimp only at hSw)
    have i3 : w9.cell? ⟨w.heap.size + 1 + 1 + 1, 3, none⟩ = some (.int .i64 (c : Int)) := cells_below hSw (row_cell H4.out.2.2.2 3) (by have := HZ.out; omega)
    go_simp
  try simp only [List.getElem_toArray, List.getElem_cons_succ, List.getElem_cons_zero, Act.put, List.setIfInBounds_toArray, List.set_cons_zero, List.set_cons_succ]
  refine headS_take (i := 13) (v := .pointer (some ⟨w.heap.size + 1, 1, none⟩)) rfl (by kernel_rfl) (fun _ _ _ h => h) (Or.inl ⟨by rfl, fun w9 hSw => ?_⟩) hHeld ?_
  · (try dsimp only at hSw)
    go_simp
  try simp only [List.getElem_toArray, List.getElem_cons_succ, List.getElem_cons_zero, Act.put, List.setIfInBounds_toArray, List.set_cons_zero, List.set_cons_succ]
  refine headS_take (i := 14) (v := .pointer (some ⟨w.heap.size + 1, 1 + c, none⟩)) rfl (by kernel_rfl) (fun _ _ _ h => h) (Or.inl ⟨by rfl, fun w9 hSw => ?_⟩) hHeld ?_
  · (try dsimp only at hSw)
    go_simp
  try simp only [List.getElem_toArray, List.getElem_cons_succ, List.getElem_cons_zero, Act.put, List.setIfInBounds_toArray, List.set_cons_zero, List.set_cons_succ]
  refine headS_take (i := 15) (v := .int .u64 (y : Int)) rfl (by kernel_rfl) (fun _ _ _ h => h) (Or.inl ⟨by rfl, fun w9 hSw => ?_⟩) hHeld ?_
  · (try dsimp only at hSw)
    have cc := cells_below hSw CBC.out.2 (by have := HZ.out; show w.heap.size + 1 < _; omega)
    go_simp
  try simp only [List.getElem_toArray, List.getElem_cons_succ, List.getElem_cons_zero, Act.put, List.setIfInBounds_toArray, List.set_cons_zero, List.set_cons_succ]
  refine headS_ready (rs := [16]) (by kernel_rfl) (by simp) (by rfl) ?_
  refine AllS.cons rfl (fun K hK => ?_) AllS.nil
  go_simp
  go_at_call 40
  refine (HAP.out _).mono ?_
  rintro e v7 ⟨rfl, hbv⟩
  have hBv : Below w6.heap.size w6 v7 := (Below.refl _ _).drew.trans hbv
  refine hK.out _ _ hBv (fun hHeld => ?_)
  clear hK K
  try simp only [List.getElem_toArray, List.getElem_cons_succ, List.getElem_cons_zero, Act.put, List.setIfInBounds_toArray, List.set_cons_zero, List.set_cons_succ]
  refine ⟨by kernel_rfl, ?_⟩
  simp only [List.drop_succ_cons, List.drop_zero]
  have h42 := (hBv.block (w.heap.size + 1 + 1) (by have := HZ.out; omega)).trans H4.out.2.2.1
  have hB7 := HB.out.trans (hBv.mono HB.out.size)
  have hz7 : w.heap.size + 4 ≤ v7.heap.size := by have := hBv.size; have := HZ.out; omega
  have H42 := Lib.hid h42
  have HB7 := Lib.hid hB7
  have HZ7 := Lib.hid hz7
  clear h42 hB7 hz7 hBv hbv hHeld
  go_wp2_with fail
  refine (HWI.out _).mono ?_
  rintro e v ⟨rfl, hb⟩
  have HX2 := Lib.hid ((hb.block _ (by have := HZ7.out; omega)).trans H42.out)
  have HBV := Lib.hid (HB7.out.trans (hb.mono HB7.out.size))
  clear hb 
  go_wp2_with (with_reducible refine store_r (.tmp 6) (.tmp 130) (w.heap.size + 1 + 1) _ V HX2.out rfl rfl rfl rfl rfl (HR.out 0 w).sz (HR.out 0 w).one ?_)
  refine ret_r2 (w.heap.size + 1 + 1) V (.int .i64 0) (setRow_heap _ _ _ _ _ _ HX2.out) (HR.out 0 w).sz rfl rfl rfl rfl ?_
  exact ⟨V, rfl, HR.out _ _, below_setRowM HBV.out (by omega) _⟩

set_option maxRecDepth 20000 in
set_option maxHeartbeats 6400000 in
theorem rstep_app7 (mem stk inp : Int) (Ad : Option Addr) (ld cd : Nat) (Af : Option Addr) (lf cf bc oc lc cc : Nat) (Ai : Option Addr) (li ci k : Nat) (n : Int) (a : Nat) (ha : a < 8) (mm op : List Int) (b c : Nat) (hb : b < 8) (hc : c < 8) (m : Int) (x y : Nat) (z0 z1 z2 z3 z4 z5 z6 z7 : Int) (MA : Option Addr) (mn mc : Nat) (OA : Option Addr) (on occ : Nat) (w : World) (hk : k < lc) (hbc : bc < w.heap.size) (hins : InsAt w bc (oc + k * 5) ⟨n, (a : Int), (b : Int), (c : Int), m⟩) (hml : mm.length = mn) (hol : op.length = on) (hkM : k < 1000000) (hx : (#[.int .i64 (k : Int), .int .u64 z0, .int .u64 z1, .int .u64 z2, .int .u64 z3, .int .u64 z4, .int .u64 z5, .int .u64 z6, .int .u64 z7, .slice MA mn mc, .slice OA on occ] : Array Value)[1 + b]? = some (.int .u64 (x : Int))) (hy : (#[.int .i64 (k : Int), .int .u64 z0, .int .u64 z1, .int .u64 z2, .int .u64 z3, .int .u64 z4, .int .u64 z5, .int .u64 z6, .int .u64 z7, .slice MA mn mc, .slice OA on occ] : Array Value)[1 + c]? = some (.int .u64 (y : Int))) (hxl : x < 18446744073709551616) (hyl : y < 18446744073709551616) (n0 : (n == 0) = false) (n1 : (n == 1) = false) (n2 : (n == 2) = false) (n17 : (n == 17) = false) (n18 : (n == 18) = false) (n19 : (n == 19) = false) (n20 : (n == 20) = false) (n21 : (n == 21) = false) (n22 : (n == 22) = false) (n23 : (n == 23) = false) (n24 : (n == 24) = false) (n25 : (n == 25) = false) (m0 : 0 ≤ n) (m1 : n < 26) (n6 : (n == 6) = false) (n7 : (n == 7) = true) (hy0 : ((y : Int) == 0) = false) :
    Calls Tryd.prog 20 #[.agg #[.int .i64 mem, .int .i64 stk, .int .i64 inp, .slice Ad ld cd, .slice Af lf cf, .slice (some ⟨bc, oc, none⟩) lc cc], .slice Ai li ci, .agg #[.int .i64 (k : Int), .int .u64 z0, .int .u64 z1, .int .u64 z2, .int .u64 z3, .int .u64 z4, .int .u64 z5, .int .u64 z6, .int .u64 z7, .slice MA mn mc, .slice OA on occ]] w fun e w' => SubR ⟨(k : Int), [z0, z1, z2, z3, z4, z5, z6, z7], mm, op⟩ ⟨(k : Int) + 1, [z0, z1, z2, z3, z4, z5, z6, z7].set a (Wd.app (n + 5) 64 (x : Int) (y : Int)), mm, op⟩ MA mc OA occ 0 w e w' := by
  have hap : ∀ W, Calls Tryd.prog 40 #[.int .i64 (n + 5), .int .i64 64, .int .u64 (x : Int), .int .u64 (y : Int)] W fun e w' => e = .returned (.int .u64 (Wd.app (n + 5) 64 (x : Int) (y : Int))) ∧ Below W.heap.size W w' := fun W => rapply_any (n + 5) 64 x y hxl hyl W
  generalize (Wd.app (n + 5) 64 (x : Int) (y : Int)) = u at *
  have HAP := Lib.hid hap
  clear hap hxl hyl
  have hwi : ∀ W, Calls Tryd.prog 37 #[.agg #[.int .i64 (k : Int), .int .u64 z0, .int .u64 z1, .int .u64 z2, .int .u64 z3, .int .u64 z4, .int .u64 z5, .int .u64 z6, .int .u64 z7, .slice MA mn mc, .slice OA on occ], .int .i64 a, .int .u64 u] W fun e w' => e = .returned (.agg (stC ⟨(k : Int) + 1, [z0, z1, z2, z3, z4, z5, z6, z7].set a u, mm, op⟩ (.slice MA mn mc) (.slice OA on occ))) ∧ Below W.heap.size W w' := fun W => rwith_any a ha ⟨(k : Int), [z0, z1, z2, z3, z4, z5, z6, z7], mm, op⟩ rfl MA mn mc OA on occ u W (by show (0 : Int) ≤ (k : Int); omega) (by show (k : Int) < 1000000; omega)
  have hrs : ∀ b v, ResR b v ⟨(k : Int), [z0, z1, z2, z3, z4, z5, z6, z7], mm, op⟩ ⟨(k : Int) + 1, [z0, z1, z2, z3, z4, z5, z6, z7].set a u, mm, op⟩ MA mc OA occ (stC ⟨(k : Int) + 1, [z0, z1, z2, z3, z4, z5, z6, z7].set a u, mm, op⟩ (.slice MA mn mc) (.slice OA on occ)) := fun b v => ⟨MA, mc, OA, occ, by rw [← hml, ← hol], .inl ⟨rfl, rfl, rfl⟩, .inl ⟨rfl, rfl, rfl⟩⟩
  generalize stC ⟨(k : Int) + 1, [z0, z1, z2, z3, z4, z5, z6, z7].set a u, mm, op⟩ (.slice MA mn mc) (.slice OA on occ) = V at *
  have HWI := Lib.hid hwi
  have HR := Lib.hid hrs
  clear hwi hrs hkM hml hol ha
  have HXB := Lib.hid hx
  have HYC := Lib.hid hy
  have hbi : (b : Int) < 8 := by omega
  have hci : (c : Int) < 8 := by omega
  have hw5 : IntKind.i64.wrap (n + 5) = n + 5 := by rw [IntKind.wrap_i64]; omega
  clear m0 m1
  clear hx hy hb hc
  have h3 := three w (.cells #[.int .i64 mem, .int .i64 stk, .int .i64 inp, .slice Ad ld cd, .slice Af lf cf, .slice (some ⟨bc, oc, none⟩) lc cc] 26) (.cells #[.int .i64 (k : Int), .int .u64 z0, .int .u64 z1, .int .u64 z2, .int .u64 z3, .int .u64 z4, .int .u64 z5, .int .u64 z6, .int .u64 z7, .slice MA mn mc, .slice OA on occ] 45) (.cells #[.int .i64 0, .int .u64 0, .int .u64 0, .int .u64 0, .int .u64 0, .int .u64 0, .int .u64 0, .int .u64 0, .int .u64 0, .slice none 0 0, .slice none 0 0] 45)
  have hB : Below w.heap.size w (((w.alloc (.cells #[.int .i64 mem, .int .i64 stk, .int .i64 inp, .slice Ad ld cd, .slice Af lf cf, .slice (some ⟨bc, oc, none⟩) lc cc] 26)).alloc (.cells #[.int .i64 (k : Int), .int .u64 z0, .int .u64 z1, .int .u64 z2, .int .u64 z3, .int .u64 z4, .int .u64 z5, .int .u64 z6, .int .u64 z7, .slice MA mn mc, .slice OA on occ] 45)).alloc (.cells #[.int .i64 0, .int .u64 0, .int .u64 0, .int .u64 0, .int .u64 0, .int .u64 0, .int .u64 0, .int .u64 0, .int .u64 0, .slice none 0 0, .slice none 0 0] 45)) := (((Below.refl _ _).alloc (Nat.le_refl _) _).alloc (by simp) _).alloc (by simp; omega) _
  have hz : (((w.alloc (.cells #[.int .i64 mem, .int .i64 stk, .int .i64 inp, .slice Ad ld cd, .slice Af lf cf, .slice (some ⟨bc, oc, none⟩) lc cc] 26)).alloc (.cells #[.int .i64 (k : Int), .int .u64 z0, .int .u64 z1, .int .u64 z2, .int .u64 z3, .int .u64 z4, .int .u64 z5, .int .u64 z6, .int .u64 z7, .slice MA mn mc, .slice OA on occ] 45)).alloc (.cells #[.int .i64 0, .int .u64 0, .int .u64 0, .int .u64 0, .int .u64 0, .int .u64 0, .int .u64 0, .int .u64 0, .int .u64 0, .slice none 0 0, .slice none 0 0] 45)).heap.size = w.heap.size + 3 := by simp
  obtain ⟨j0, j1, j2, j3, j4⟩ := hins
  simp only at j0 j1 j2 j3 j4
  have hki : (k : Int) < lc := by omega
  have H3 := Lib.hid h3
  have HB3 := Lib.hid hB
  have HZ3 := Lib.hid hz
  have HJ := Lib.hid (And.intro j0 (And.intro j1 (And.intro j2 (And.intro j3 j4))))
  clear h3 hB hz j0 j1 j2 j3 j4
  go_enter Tryd.func20, Tryd.ntmps20
  go_upto_region 1 with (fail)
  generalize (((w.alloc (.cells #[.int .i64 mem, .int .i64 stk, .int .i64 inp, .slice Ad ld cd, .slice Af lf cf, .slice (some ⟨bc, oc, none⟩) lc cc] 26)).alloc (.cells #[.int .i64 (k : Int), .int .u64 z0, .int .u64 z1, .int .u64 z2, .int .u64 z3, .int .u64 z4, .int .u64 z5, .int .u64 z6, .int .u64 z7, .slice MA mn mc, .slice OA on occ] 45)).alloc (.cells #[.int .i64 0, .int .u64 0, .int .u64 0, .int .u64 0, .int .u64 0, .int .u64 0, .int .u64 0, .int .u64 0, .int .u64 0, .slice none 0 0, .slice none 0 0] 45)) = w3 at *
  have j0 := cells_below HB3.out HJ.out.1 hbc
  have j1 := cells_below HB3.out HJ.out.2.1 hbc
  have j2 := cells_below HB3.out HJ.out.2.2.1 hbc
  have j3 := cells_below HB3.out HJ.out.2.2.2.1 hbc
  have j4 := cells_below HB3.out HJ.out.2.2.2.2 hbc
  have q5 := row_cell H3.out.1 5
  have x0 := row_cell H3.out.2.1 0
  simp at q5 x0
  go_upto_region 2 with (fail)
  clear j0 j1 j2 j3 j4 q5 x0 hki
  have hz6 : (w3.alloc (.cells #[.int .i64 n, .int .i64 (a : Int), .int .i64 (b : Int), .int .i64 (c : Int), .int .u64 m] 59)).heap.size = w.heap.size + 4 := by have := HZ3.out; simp; omega
  have hb6 := Below.box w3 (.cells #[.int .i64 n, .int .i64 (a : Int), .int .i64 (b : Int), .int .i64 (c : Int), .int .u64 m] 59)
  have hB6 : Below w.heap.size w (w3.alloc (.cells #[.int .i64 n, .int .i64 (a : Int), .int .i64 (b : Int), .int .i64 (c : Int), .int .u64 m] 59)) := HB3.out.trans (hb6.mono HB3.out.size)
  have h40 := (hb6.block w.heap.size (by have := HZ3.out; omega)).trans H3.out.1
  have h41 := (hb6.block (w.heap.size + 1) (by have := HZ3.out; omega)).trans H3.out.2.1
  have h42 := (hb6.block (w.heap.size + 1 + 1) (by have := HZ3.out; omega)).trans H3.out.2.2
  have h43 : (w3.alloc (.cells #[.int .i64 n, .int .i64 (a : Int), .int .i64 (b : Int), .int .i64 (c : Int), .int .u64 m] 59)).heap[w3.heap.size]? = some (.cells #[.int .i64 n, .int .i64 (a : Int), .int .i64 (b : Int), .int .i64 (c : Int), .int .u64 m] 59 (0, 0)) := heap_newM rfl
  have hw3 : w3.heap.size = w.heap.size + 1 + 1 + 1 := HZ3.out
  rw [hw3] at h43 ⊢
  have H4 := Lib.hid (And.intro h40 (And.intro h41 (And.intro h42 h43)))
  have HB := Lib.hid hB6
  have HZ := Lib.hid hz6
  clear h40 h41 h42 h43 hB6 hb6 hz6 hw3
  generalize w3.alloc (.cells #[.int .i64 n, .int .i64 (a : Int), .int .i64 (b : Int), .int .i64 (c : Int), .int .u64 m] 59) = w6 at *
  have i0 := row_cell H4.out.2.2.2 0
  have i1 := row_cell H4.out.2.2.2 1
  have i2 := row_cell H4.out.2.2.2 2
  have i3 := row_cell H4.out.2.2.2 3
  have i4 := row_cell H4.out.2.2.2 4
  simp at i0 i1 i2 i3 i4
  have cb : w6.cell? ⟨w.heap.size + 1, 1 + b, none⟩ = some (.int .u64 (x : Int)) := by
    rw [cell_of_row _ _ _ _ _ _ H4.out.2.1]
    exact HXB.out
  have cc : w6.cell? ⟨w.heap.size + 1, 1 + c, none⟩ = some (.int .u64 (y : Int)) := by
    rw [cell_of_row _ _ _ _ _ _ H4.out.2.1]
    exact HYC.out
  go_upto_region 28 with (fail)
  have CBC := Lib.hid (And.intro cb cc)
  clear cb cc i0 i1 i2 i3 i4
  refine held_tail (S := fun W => Below w6.heap.size w6 W) 17 (by kernel_rfl) (by simp) (Below.refl _ _).drew (fun hHeld => ?_)
  refine headS_take (i := 0) (v := .agg #[.int .i64 (k : Int), .int .u64 z0, .int .u64 z1, .int .u64 z2, .int .u64 z3, .int .u64 z4, .int .u64 z5, .int .u64 z6, .int .u64 z7, .slice MA mn mc, .slice OA on occ]) rfl (by kernel_rfl) (fun _ _ _ h => h) (Or.inl ⟨by rfl, fun w9 hSw => ?_⟩) hHeld ?_
  · (try dsimp only at hSw)
    have x0 : w9.cell? ⟨w.heap.size + 1, 0, none⟩ = some (.int .i64 (k : Int)) := cells_below hSw (row_cell H4.out.2.1 0) (by have := HZ.out; omega)
    have x1 : w9.cell? ⟨w.heap.size + 1, 1, none⟩ = some (.int .u64 z0) := cells_below hSw (row_cell H4.out.2.1 1) (by have := HZ.out; omega)
    have x2 : w9.cell? ⟨w.heap.size + 1, 2, none⟩ = some (.int .u64 z1) := cells_below hSw (row_cell H4.out.2.1 2) (by have := HZ.out; omega)
    have x3 : w9.cell? ⟨w.heap.size + 1, 3, none⟩ = some (.int .u64 z2) := cells_below hSw (row_cell H4.out.2.1 3) (by have := HZ.out; omega)
    have x4 : w9.cell? ⟨w.heap.size + 1, 4, none⟩ = some (.int .u64 z3) := cells_below hSw (row_cell H4.out.2.1 4) (by have := HZ.out; omega)
    have x5 : w9.cell? ⟨w.heap.size + 1, 5, none⟩ = some (.int .u64 z4) := cells_below hSw (row_cell H4.out.2.1 5) (by have := HZ.out; omega)
    have x6 : w9.cell? ⟨w.heap.size + 1, 6, none⟩ = some (.int .u64 z5) := cells_below hSw (row_cell H4.out.2.1 6) (by have := HZ.out; omega)
    have x7 : w9.cell? ⟨w.heap.size + 1, 7, none⟩ = some (.int .u64 z6) := cells_below hSw (row_cell H4.out.2.1 7) (by have := HZ.out; omega)
    have x8 : w9.cell? ⟨w.heap.size + 1, 8, none⟩ = some (.int .u64 z7) := cells_below hSw (row_cell H4.out.2.1 8) (by have := HZ.out; omega)
    have x9 : w9.cell? ⟨w.heap.size + 1, 9, none⟩ = some (.slice MA mn mc) := cells_below hSw (row_cell H4.out.2.1 9) (by have := HZ.out; omega)
    have x10 : w9.cell? ⟨w.heap.size + 1, 10, none⟩ = some (.slice OA on occ) := cells_below hSw (row_cell H4.out.2.1 10) (by have := HZ.out; omega)
    go_simp
  try simp only [List.getElem_toArray, List.getElem_cons_succ, List.getElem_cons_zero, Act.put, List.setIfInBounds_toArray, List.set_cons_zero, List.set_cons_succ]
  refine headS_take (i := 1) (v := .pointer (some ⟨w.heap.size + 1 + 1 + 1, 1, none⟩)) rfl (by kernel_rfl) (fun _ _ _ h => h) (Or.inl ⟨by rfl, fun w9 hSw => ?_⟩) hHeld ?_
  · (try dsimp only at hSw)
    go_simp
  try simp only [List.getElem_toArray, List.getElem_cons_succ, List.getElem_cons_zero, Act.put, List.setIfInBounds_toArray, List.set_cons_zero, List.set_cons_succ]
  refine headS_take (i := 2) (v := .int .i64 (a : Int)) rfl (by kernel_rfl) (fun _ _ _ h => h) (Or.inl ⟨by rfl, fun w9 hSw => ?_⟩) hHeld ?_
  · (try dsimp only at hSw)
    have i1 : w9.cell? ⟨w.heap.size + 1 + 1 + 1, 1, none⟩ = some (.int .i64 (a : Int)) := cells_below hSw (row_cell H4.out.2.2.2 1) (by have := HZ.out; omega)
    go_simp
  try simp only [List.getElem_toArray, List.getElem_cons_succ, List.getElem_cons_zero, Act.put, List.setIfInBounds_toArray, List.set_cons_zero, List.set_cons_succ]
  refine headS_take (i := 3) (v := .pointer (some ⟨w.heap.size + 1 + 1 + 1, 0, none⟩)) rfl (by kernel_rfl) (fun _ _ _ h => h) (Or.inl ⟨by rfl, fun w9 hSw => ?_⟩) hHeld ?_
  · (try dsimp only at hSw)
    go_simp
  try simp only [List.getElem_toArray, List.getElem_cons_succ, List.getElem_cons_zero, Act.put, List.setIfInBounds_toArray, List.set_cons_zero, List.set_cons_succ]
  refine headS_take (i := 4) (v := .int .i64 n) rfl (by kernel_rfl) (fun _ _ _ h => h) (Or.inl ⟨by rfl, fun w9 hSw => ?_⟩) hHeld ?_
  · (try dsimp only at hSw)
    have i0 : w9.cell? ⟨w.heap.size + 1 + 1 + 1, 0, none⟩ = some (.int .i64 n) := cells_below hSw (row_cell H4.out.2.2.2 0) (by have := HZ.out; omega)
    go_simp
  try simp only [List.getElem_toArray, List.getElem_cons_succ, List.getElem_cons_zero, Act.put, List.setIfInBounds_toArray, List.set_cons_zero, List.set_cons_succ]
  refine headS_take (i := 5) (v := .int .i64 (n + 5)) rfl (by kernel_rfl) (fun _ _ _ h => h) (Or.inl ⟨by rfl, fun w9 hSw => ?_⟩) hHeld ?_
  · (try dsimp only at hSw)
    go_simp
  try simp only [List.getElem_toArray, List.getElem_cons_succ, List.getElem_cons_zero, Act.put, List.setIfInBounds_toArray, List.set_cons_zero, List.set_cons_succ]
  refine headS_take (i := 6) (v := .pointer (some ⟨w.heap.size + 1 + 1 + 1, 2, none⟩)) rfl (by kernel_rfl) (fun _ _ _ h => h) (Or.inl ⟨by rfl, fun w9 hSw => ?_⟩) hHeld ?_
  · (try dsimp only at hSw)
    go_simp
  try simp only [List.getElem_toArray, List.getElem_cons_succ, List.getElem_cons_zero, Act.put, List.setIfInBounds_toArray, List.set_cons_zero, List.set_cons_succ]
  refine headS_take (i := 7) (v := .int .i64 (b : Int)) rfl (by kernel_rfl) (fun _ _ _ h => h) (Or.inl ⟨by rfl, fun w9 hSw => ?_⟩) hHeld ?_
  · (try dsimp only at hSw)
    have i2 : w9.cell? ⟨w.heap.size + 1 + 1 + 1, 2, none⟩ = some (.int .i64 (b : Int)) := cells_below hSw (row_cell H4.out.2.2.2 2) (by have := HZ.out; omega)
    go_simp
  try simp only [List.getElem_toArray, List.getElem_cons_succ, List.getElem_cons_zero, Act.put, List.setIfInBounds_toArray, List.set_cons_zero, List.set_cons_succ]
  refine headS_take (i := 8) (v := .pointer (some ⟨w.heap.size + 1, 1, none⟩)) rfl (by kernel_rfl) (fun _ _ _ h => h) (Or.inl ⟨by rfl, fun w9 hSw => ?_⟩) hHeld ?_
  · (try dsimp only at hSw)
    go_simp
  try simp only [List.getElem_toArray, List.getElem_cons_succ, List.getElem_cons_zero, Act.put, List.setIfInBounds_toArray, List.set_cons_zero, List.set_cons_succ]
  refine headS_take (i := 9) (v := .pointer (some ⟨w.heap.size + 1, 1 + b, none⟩)) rfl (by kernel_rfl) (fun _ _ _ h => h) (Or.inl ⟨by rfl, fun w9 hSw => ?_⟩) hHeld ?_
  · (try dsimp only at hSw)
    go_simp
  try simp only [List.getElem_toArray, List.getElem_cons_succ, List.getElem_cons_zero, Act.put, List.setIfInBounds_toArray, List.set_cons_zero, List.set_cons_succ]
  refine headS_take (i := 10) (v := .int .u64 (x : Int)) rfl (by kernel_rfl) (fun _ _ _ h => h) (Or.inl ⟨by rfl, fun w9 hSw => ?_⟩) hHeld ?_
  · (try dsimp only at hSw)
    have cb := cells_below hSw CBC.out.1 (by have := HZ.out; show w.heap.size + 1 < _; omega)
    go_simp
  try simp only [List.getElem_toArray, List.getElem_cons_succ, List.getElem_cons_zero, Act.put, List.setIfInBounds_toArray, List.set_cons_zero, List.set_cons_succ]
  refine headS_take (i := 11) (v := .pointer (some ⟨w.heap.size + 1 + 1 + 1, 3, none⟩)) rfl (by kernel_rfl) (fun _ _ _ h => h) (Or.inl ⟨by rfl, fun w9 hSw => ?_⟩) hHeld ?_
  · (try dsimp only at hSw)
    go_simp
  try simp only [List.getElem_toArray, List.getElem_cons_succ, List.getElem_cons_zero, Act.put, List.setIfInBounds_toArray, List.set_cons_zero, List.set_cons_succ]
  refine headS_take (i := 12) (v := .int .i64 (c : Int)) rfl (by kernel_rfl) (fun _ _ _ h => h) (Or.inl ⟨by rfl, fun w9 hSw => ?_⟩) hHeld ?_
  · (try dsimp only at hSw)
    have i3 : w9.cell? ⟨w.heap.size + 1 + 1 + 1, 3, none⟩ = some (.int .i64 (c : Int)) := cells_below hSw (row_cell H4.out.2.2.2 3) (by have := HZ.out; omega)
    go_simp
  try simp only [List.getElem_toArray, List.getElem_cons_succ, List.getElem_cons_zero, Act.put, List.setIfInBounds_toArray, List.set_cons_zero, List.set_cons_succ]
  refine headS_take (i := 13) (v := .pointer (some ⟨w.heap.size + 1, 1, none⟩)) rfl (by kernel_rfl) (fun _ _ _ h => h) (Or.inl ⟨by rfl, fun w9 hSw => ?_⟩) hHeld ?_
  · (try dsimp only at hSw)
    go_simp
  try simp only [List.getElem_toArray, List.getElem_cons_succ, List.getElem_cons_zero, Act.put, List.setIfInBounds_toArray, List.set_cons_zero, List.set_cons_succ]
  refine headS_take (i := 14) (v := .pointer (some ⟨w.heap.size + 1, 1 + c, none⟩)) rfl (by kernel_rfl) (fun _ _ _ h => h) (Or.inl ⟨by rfl, fun w9 hSw => ?_⟩) hHeld ?_
  · (try dsimp only at hSw)
    go_simp
  try simp only [List.getElem_toArray, List.getElem_cons_succ, List.getElem_cons_zero, Act.put, List.setIfInBounds_toArray, List.set_cons_zero, List.set_cons_succ]
  refine headS_take (i := 15) (v := .int .u64 (y : Int)) rfl (by kernel_rfl) (fun _ _ _ h => h) (Or.inl ⟨by rfl, fun w9 hSw => ?_⟩) hHeld ?_
  · (try dsimp only at hSw)
    have cc := cells_below hSw CBC.out.2 (by have := HZ.out; show w.heap.size + 1 < _; omega)
    go_simp
  try simp only [List.getElem_toArray, List.getElem_cons_succ, List.getElem_cons_zero, Act.put, List.setIfInBounds_toArray, List.set_cons_zero, List.set_cons_succ]
  refine headS_ready (rs := [16]) (by kernel_rfl) (by simp) (by rfl) ?_
  refine AllS.cons rfl (fun K hK => ?_) AllS.nil
  go_simp
  go_at_call 40
  refine (HAP.out _).mono ?_
  rintro e v7 ⟨rfl, hbv⟩
  have hBv : Below w6.heap.size w6 v7 := (Below.refl _ _).drew.trans hbv
  refine hK.out _ _ hBv (fun hHeld => ?_)
  clear hK K
  try simp only [List.getElem_toArray, List.getElem_cons_succ, List.getElem_cons_zero, Act.put, List.setIfInBounds_toArray, List.set_cons_zero, List.set_cons_succ]
  refine ⟨by kernel_rfl, ?_⟩
  simp only [List.drop_succ_cons, List.drop_zero]
  have h42 := (hBv.block (w.heap.size + 1 + 1) (by have := HZ.out; omega)).trans H4.out.2.2.1
  have hB7 := HB.out.trans (hBv.mono HB.out.size)
  have hz7 : w.heap.size + 4 ≤ v7.heap.size := by have := hBv.size; have := HZ.out; omega
  have H42 := Lib.hid h42
  have HB7 := Lib.hid hB7
  have HZ7 := Lib.hid hz7
  clear h42 hB7 hz7 hBv hbv hHeld
  go_wp2_with fail
  refine (HWI.out _).mono ?_
  rintro e v ⟨rfl, hb⟩
  have HX2 := Lib.hid ((hb.block _ (by have := HZ7.out; omega)).trans H42.out)
  have HBV := Lib.hid (HB7.out.trans (hb.mono HB7.out.size))
  clear hb 
  go_wp2_with (with_reducible refine store_r (.tmp 6) (.tmp 130) (w.heap.size + 1 + 1) _ V HX2.out rfl rfl rfl rfl rfl (HR.out 0 w).sz (HR.out 0 w).one ?_)
  refine ret_r2 (w.heap.size + 1 + 1) V (.int .i64 0) (setRow_heap _ _ _ _ _ _ HX2.out) (HR.out 0 w).sz rfl rfl rfl rfl ?_
  exact ⟨V, rfl, HR.out _ _, below_setRowM HBV.out (by omega) _⟩

set_option maxRecDepth 20000 in
set_option maxHeartbeats 6400000 in
theorem rstep_appn (mem stk inp : Int) (Ad : Option Addr) (ld cd : Nat) (Af : Option Addr) (lf cf bc oc lc cc : Nat) (Ai : Option Addr) (li ci k : Nat) (n : Int) (a : Nat) (ha : a < 8) (mm op : List Int) (b c : Nat) (hb : b < 8) (hc : c < 8) (m : Int) (x y : Nat) (z0 z1 z2 z3 z4 z5 z6 z7 : Int) (MA : Option Addr) (mn mc : Nat) (OA : Option Addr) (on occ : Nat) (w : World) (hk : k < lc) (hbc : bc < w.heap.size) (hins : InsAt w bc (oc + k * 5) ⟨n, (a : Int), (b : Int), (c : Int), m⟩) (hml : mm.length = mn) (hol : op.length = on) (hkM : k < 1000000) (hx : (#[.int .i64 (k : Int), .int .u64 z0, .int .u64 z1, .int .u64 z2, .int .u64 z3, .int .u64 z4, .int .u64 z5, .int .u64 z6, .int .u64 z7, .slice MA mn mc, .slice OA on occ] : Array Value)[1 + b]? = some (.int .u64 (x : Int))) (hy : (#[.int .i64 (k : Int), .int .u64 z0, .int .u64 z1, .int .u64 z2, .int .u64 z3, .int .u64 z4, .int .u64 z5, .int .u64 z6, .int .u64 z7, .slice MA mn mc, .slice OA on occ] : Array Value)[1 + c]? = some (.int .u64 (y : Int))) (hxl : x < 18446744073709551616) (hyl : y < 18446744073709551616) (n0 : (n == 0) = false) (n1 : (n == 1) = false) (n2 : (n == 2) = false) (n17 : (n == 17) = false) (n18 : (n == 18) = false) (n19 : (n == 19) = false) (n20 : (n == 20) = false) (n21 : (n == 21) = false) (n22 : (n == 22) = false) (n23 : (n == 23) = false) (n24 : (n == 24) = false) (n25 : (n == 25) = false) (m0 : 0 ≤ n) (m1 : n < 26) (n6 : (n == 6) = false) (n7 : (n == 7) = false) :
    Calls Tryd.prog 20 #[.agg #[.int .i64 mem, .int .i64 stk, .int .i64 inp, .slice Ad ld cd, .slice Af lf cf, .slice (some ⟨bc, oc, none⟩) lc cc], .slice Ai li ci, .agg #[.int .i64 (k : Int), .int .u64 z0, .int .u64 z1, .int .u64 z2, .int .u64 z3, .int .u64 z4, .int .u64 z5, .int .u64 z6, .int .u64 z7, .slice MA mn mc, .slice OA on occ]] w fun e w' => SubR ⟨(k : Int), [z0, z1, z2, z3, z4, z5, z6, z7], mm, op⟩ ⟨(k : Int) + 1, [z0, z1, z2, z3, z4, z5, z6, z7].set a (Wd.app (n + 5) 64 (x : Int) (y : Int)), mm, op⟩ MA mc OA occ 0 w e w' := by
  have hap : ∀ W, Calls Tryd.prog 40 #[.int .i64 (n + 5), .int .i64 64, .int .u64 (x : Int), .int .u64 (y : Int)] W fun e w' => e = .returned (.int .u64 (Wd.app (n + 5) 64 (x : Int) (y : Int))) ∧ Below W.heap.size W w' := fun W => rapply_any (n + 5) 64 x y hxl hyl W
  generalize (Wd.app (n + 5) 64 (x : Int) (y : Int)) = u at *
  have HAP := Lib.hid hap
  clear hap hxl hyl
  have hwi : ∀ W, Calls Tryd.prog 37 #[.agg #[.int .i64 (k : Int), .int .u64 z0, .int .u64 z1, .int .u64 z2, .int .u64 z3, .int .u64 z4, .int .u64 z5, .int .u64 z6, .int .u64 z7, .slice MA mn mc, .slice OA on occ], .int .i64 a, .int .u64 u] W fun e w' => e = .returned (.agg (stC ⟨(k : Int) + 1, [z0, z1, z2, z3, z4, z5, z6, z7].set a u, mm, op⟩ (.slice MA mn mc) (.slice OA on occ))) ∧ Below W.heap.size W w' := fun W => rwith_any a ha ⟨(k : Int), [z0, z1, z2, z3, z4, z5, z6, z7], mm, op⟩ rfl MA mn mc OA on occ u W (by show (0 : Int) ≤ (k : Int); omega) (by show (k : Int) < 1000000; omega)
  have hrs : ∀ b v, ResR b v ⟨(k : Int), [z0, z1, z2, z3, z4, z5, z6, z7], mm, op⟩ ⟨(k : Int) + 1, [z0, z1, z2, z3, z4, z5, z6, z7].set a u, mm, op⟩ MA mc OA occ (stC ⟨(k : Int) + 1, [z0, z1, z2, z3, z4, z5, z6, z7].set a u, mm, op⟩ (.slice MA mn mc) (.slice OA on occ)) := fun b v => ⟨MA, mc, OA, occ, by rw [← hml, ← hol], .inl ⟨rfl, rfl, rfl⟩, .inl ⟨rfl, rfl, rfl⟩⟩
  generalize stC ⟨(k : Int) + 1, [z0, z1, z2, z3, z4, z5, z6, z7].set a u, mm, op⟩ (.slice MA mn mc) (.slice OA on occ) = V at *
  have HWI := Lib.hid hwi
  have HR := Lib.hid hrs
  clear hwi hrs hkM hml hol ha
  have HXB := Lib.hid hx
  have HYC := Lib.hid hy
  have hbi : (b : Int) < 8 := by omega
  have hci : (c : Int) < 8 := by omega
  have hw5 : IntKind.i64.wrap (n + 5) = n + 5 := by rw [IntKind.wrap_i64]; omega
  clear m0 m1
  clear hx hy hb hc
  have h3 := three w (.cells #[.int .i64 mem, .int .i64 stk, .int .i64 inp, .slice Ad ld cd, .slice Af lf cf, .slice (some ⟨bc, oc, none⟩) lc cc] 26) (.cells #[.int .i64 (k : Int), .int .u64 z0, .int .u64 z1, .int .u64 z2, .int .u64 z3, .int .u64 z4, .int .u64 z5, .int .u64 z6, .int .u64 z7, .slice MA mn mc, .slice OA on occ] 45) (.cells #[.int .i64 0, .int .u64 0, .int .u64 0, .int .u64 0, .int .u64 0, .int .u64 0, .int .u64 0, .int .u64 0, .int .u64 0, .slice none 0 0, .slice none 0 0] 45)
  have hB : Below w.heap.size w (((w.alloc (.cells #[.int .i64 mem, .int .i64 stk, .int .i64 inp, .slice Ad ld cd, .slice Af lf cf, .slice (some ⟨bc, oc, none⟩) lc cc] 26)).alloc (.cells #[.int .i64 (k : Int), .int .u64 z0, .int .u64 z1, .int .u64 z2, .int .u64 z3, .int .u64 z4, .int .u64 z5, .int .u64 z6, .int .u64 z7, .slice MA mn mc, .slice OA on occ] 45)).alloc (.cells #[.int .i64 0, .int .u64 0, .int .u64 0, .int .u64 0, .int .u64 0, .int .u64 0, .int .u64 0, .int .u64 0, .int .u64 0, .slice none 0 0, .slice none 0 0] 45)) := (((Below.refl _ _).alloc (Nat.le_refl _) _).alloc (by simp) _).alloc (by simp; omega) _
  have hz : (((w.alloc (.cells #[.int .i64 mem, .int .i64 stk, .int .i64 inp, .slice Ad ld cd, .slice Af lf cf, .slice (some ⟨bc, oc, none⟩) lc cc] 26)).alloc (.cells #[.int .i64 (k : Int), .int .u64 z0, .int .u64 z1, .int .u64 z2, .int .u64 z3, .int .u64 z4, .int .u64 z5, .int .u64 z6, .int .u64 z7, .slice MA mn mc, .slice OA on occ] 45)).alloc (.cells #[.int .i64 0, .int .u64 0, .int .u64 0, .int .u64 0, .int .u64 0, .int .u64 0, .int .u64 0, .int .u64 0, .int .u64 0, .slice none 0 0, .slice none 0 0] 45)).heap.size = w.heap.size + 3 := by simp
  obtain ⟨j0, j1, j2, j3, j4⟩ := hins
  simp only at j0 j1 j2 j3 j4
  have hki : (k : Int) < lc := by omega
  have H3 := Lib.hid h3
  have HB3 := Lib.hid hB
  have HZ3 := Lib.hid hz
  have HJ := Lib.hid (And.intro j0 (And.intro j1 (And.intro j2 (And.intro j3 j4))))
  clear h3 hB hz j0 j1 j2 j3 j4
  go_enter Tryd.func20, Tryd.ntmps20
  go_upto_region 1 with (fail)
  generalize (((w.alloc (.cells #[.int .i64 mem, .int .i64 stk, .int .i64 inp, .slice Ad ld cd, .slice Af lf cf, .slice (some ⟨bc, oc, none⟩) lc cc] 26)).alloc (.cells #[.int .i64 (k : Int), .int .u64 z0, .int .u64 z1, .int .u64 z2, .int .u64 z3, .int .u64 z4, .int .u64 z5, .int .u64 z6, .int .u64 z7, .slice MA mn mc, .slice OA on occ] 45)).alloc (.cells #[.int .i64 0, .int .u64 0, .int .u64 0, .int .u64 0, .int .u64 0, .int .u64 0, .int .u64 0, .int .u64 0, .int .u64 0, .slice none 0 0, .slice none 0 0] 45)) = w3 at *
  have j0 := cells_below HB3.out HJ.out.1 hbc
  have j1 := cells_below HB3.out HJ.out.2.1 hbc
  have j2 := cells_below HB3.out HJ.out.2.2.1 hbc
  have j3 := cells_below HB3.out HJ.out.2.2.2.1 hbc
  have j4 := cells_below HB3.out HJ.out.2.2.2.2 hbc
  have q5 := row_cell H3.out.1 5
  have x0 := row_cell H3.out.2.1 0
  simp at q5 x0
  go_upto_region 2 with (fail)
  clear j0 j1 j2 j3 j4 q5 x0 hki
  have hz6 : (w3.alloc (.cells #[.int .i64 n, .int .i64 (a : Int), .int .i64 (b : Int), .int .i64 (c : Int), .int .u64 m] 59)).heap.size = w.heap.size + 4 := by have := HZ3.out; simp; omega
  have hb6 := Below.box w3 (.cells #[.int .i64 n, .int .i64 (a : Int), .int .i64 (b : Int), .int .i64 (c : Int), .int .u64 m] 59)
  have hB6 : Below w.heap.size w (w3.alloc (.cells #[.int .i64 n, .int .i64 (a : Int), .int .i64 (b : Int), .int .i64 (c : Int), .int .u64 m] 59)) := HB3.out.trans (hb6.mono HB3.out.size)
  have h40 := (hb6.block w.heap.size (by have := HZ3.out; omega)).trans H3.out.1
  have h41 := (hb6.block (w.heap.size + 1) (by have := HZ3.out; omega)).trans H3.out.2.1
  have h42 := (hb6.block (w.heap.size + 1 + 1) (by have := HZ3.out; omega)).trans H3.out.2.2
  have h43 : (w3.alloc (.cells #[.int .i64 n, .int .i64 (a : Int), .int .i64 (b : Int), .int .i64 (c : Int), .int .u64 m] 59)).heap[w3.heap.size]? = some (.cells #[.int .i64 n, .int .i64 (a : Int), .int .i64 (b : Int), .int .i64 (c : Int), .int .u64 m] 59 (0, 0)) := heap_newM rfl
  have hw3 : w3.heap.size = w.heap.size + 1 + 1 + 1 := HZ3.out
  rw [hw3] at h43 ⊢
  have H4 := Lib.hid (And.intro h40 (And.intro h41 (And.intro h42 h43)))
  have HB := Lib.hid hB6
  have HZ := Lib.hid hz6
  clear h40 h41 h42 h43 hB6 hb6 hz6 hw3
  generalize w3.alloc (.cells #[.int .i64 n, .int .i64 (a : Int), .int .i64 (b : Int), .int .i64 (c : Int), .int .u64 m] 59) = w6 at *
  have i0 := row_cell H4.out.2.2.2 0
  have i1 := row_cell H4.out.2.2.2 1
  have i2 := row_cell H4.out.2.2.2 2
  have i3 := row_cell H4.out.2.2.2 3
  have i4 := row_cell H4.out.2.2.2 4
  simp at i0 i1 i2 i3 i4
  have cb : w6.cell? ⟨w.heap.size + 1, 1 + b, none⟩ = some (.int .u64 (x : Int)) := by
    rw [cell_of_row _ _ _ _ _ _ H4.out.2.1]
    exact HXB.out
  have cc : w6.cell? ⟨w.heap.size + 1, 1 + c, none⟩ = some (.int .u64 (y : Int)) := by
    rw [cell_of_row _ _ _ _ _ _ H4.out.2.1]
    exact HYC.out
  go_upto_region 28 with (fail)
  have CBC := Lib.hid (And.intro cb cc)
  clear cb cc i0 i1 i2 i3 i4
  refine held_tail (S := fun W => Below w6.heap.size w6 W) 17 (by kernel_rfl) (by simp) (Below.refl _ _).drew (fun hHeld => ?_)
  refine headS_take (i := 0) (v := .agg #[.int .i64 (k : Int), .int .u64 z0, .int .u64 z1, .int .u64 z2, .int .u64 z3, .int .u64 z4, .int .u64 z5, .int .u64 z6, .int .u64 z7, .slice MA mn mc, .slice OA on occ]) rfl (by kernel_rfl) (fun _ _ _ h => h) (Or.inl ⟨by rfl, fun w9 hSw => ?_⟩) hHeld ?_
  · (try dsimp only at hSw)
    have x0 : w9.cell? ⟨w.heap.size + 1, 0, none⟩ = some (.int .i64 (k : Int)) := cells_below hSw (row_cell H4.out.2.1 0) (by have := HZ.out; omega)
    have x1 : w9.cell? ⟨w.heap.size + 1, 1, none⟩ = some (.int .u64 z0) := cells_below hSw (row_cell H4.out.2.1 1) (by have := HZ.out; omega)
    have x2 : w9.cell? ⟨w.heap.size + 1, 2, none⟩ = some (.int .u64 z1) := cells_below hSw (row_cell H4.out.2.1 2) (by have := HZ.out; omega)
    have x3 : w9.cell? ⟨w.heap.size + 1, 3, none⟩ = some (.int .u64 z2) := cells_below hSw (row_cell H4.out.2.1 3) (by have := HZ.out; omega)
    have x4 : w9.cell? ⟨w.heap.size + 1, 4, none⟩ = some (.int .u64 z3) := cells_below hSw (row_cell H4.out.2.1 4) (by have := HZ.out; omega)
    have x5 : w9.cell? ⟨w.heap.size + 1, 5, none⟩ = some (.int .u64 z4) := cells_below hSw (row_cell H4.out.2.1 5) (by have := HZ.out; omega)
    have x6 : w9.cell? ⟨w.heap.size + 1, 6, none⟩ = some (.int .u64 z5) := cells_below hSw (row_cell H4.out.2.1 6) (by have := HZ.out; omega)
    have x7 : w9.cell? ⟨w.heap.size + 1, 7, none⟩ = some (.int .u64 z6) := cells_below hSw (row_cell H4.out.2.1 7) (by have := HZ.out; omega)
    have x8 : w9.cell? ⟨w.heap.size + 1, 8, none⟩ = some (.int .u64 z7) := cells_below hSw (row_cell H4.out.2.1 8) (by have := HZ.out; omega)
    have x9 : w9.cell? ⟨w.heap.size + 1, 9, none⟩ = some (.slice MA mn mc) := cells_below hSw (row_cell H4.out.2.1 9) (by have := HZ.out; omega)
    have x10 : w9.cell? ⟨w.heap.size + 1, 10, none⟩ = some (.slice OA on occ) := cells_below hSw (row_cell H4.out.2.1 10) (by have := HZ.out; omega)
    go_simp
  try simp only [List.getElem_toArray, List.getElem_cons_succ, List.getElem_cons_zero, Act.put, List.setIfInBounds_toArray, List.set_cons_zero, List.set_cons_succ]
  refine headS_take (i := 1) (v := .pointer (some ⟨w.heap.size + 1 + 1 + 1, 1, none⟩)) rfl (by kernel_rfl) (fun _ _ _ h => h) (Or.inl ⟨by rfl, fun w9 hSw => ?_⟩) hHeld ?_
  · (try dsimp only at hSw)
    go_simp
  try simp only [List.getElem_toArray, List.getElem_cons_succ, List.getElem_cons_zero, Act.put, List.setIfInBounds_toArray, List.set_cons_zero, List.set_cons_succ]
  refine headS_take (i := 2) (v := .int .i64 (a : Int)) rfl (by kernel_rfl) (fun _ _ _ h => h) (Or.inl ⟨by rfl, fun w9 hSw => ?_⟩) hHeld ?_
  · (try dsimp only at hSw)
    have i1 : w9.cell? ⟨w.heap.size + 1 + 1 + 1, 1, none⟩ = some (.int .i64 (a : Int)) := cells_below hSw (row_cell H4.out.2.2.2 1) (by have := HZ.out; omega)
    go_simp
  try simp only [List.getElem_toArray, List.getElem_cons_succ, List.getElem_cons_zero, Act.put, List.setIfInBounds_toArray, List.set_cons_zero, List.set_cons_succ]
  refine headS_take (i := 3) (v := .pointer (some ⟨w.heap.size + 1 + 1 + 1, 0, none⟩)) rfl (by kernel_rfl) (fun _ _ _ h => h) (Or.inl ⟨by rfl, fun w9 hSw => ?_⟩) hHeld ?_
  · (try dsimp only at hSw)
    go_simp
  try simp only [List.getElem_toArray, List.getElem_cons_succ, List.getElem_cons_zero, Act.put, List.setIfInBounds_toArray, List.set_cons_zero, List.set_cons_succ]
  refine headS_take (i := 4) (v := .int .i64 n) rfl (by kernel_rfl) (fun _ _ _ h => h) (Or.inl ⟨by rfl, fun w9 hSw => ?_⟩) hHeld ?_
  · (try dsimp only at hSw)
    have i0 : w9.cell? ⟨w.heap.size + 1 + 1 + 1, 0, none⟩ = some (.int .i64 n) := cells_below hSw (row_cell H4.out.2.2.2 0) (by have := HZ.out; omega)
    go_simp
  try simp only [List.getElem_toArray, List.getElem_cons_succ, List.getElem_cons_zero, Act.put, List.setIfInBounds_toArray, List.set_cons_zero, List.set_cons_succ]
  refine headS_take (i := 5) (v := .int .i64 (n + 5)) rfl (by kernel_rfl) (fun _ _ _ h => h) (Or.inl ⟨by rfl, fun w9 hSw => ?_⟩) hHeld ?_
  · (try dsimp only at hSw)
    go_simp
  try simp only [List.getElem_toArray, List.getElem_cons_succ, List.getElem_cons_zero, Act.put, List.setIfInBounds_toArray, List.set_cons_zero, List.set_cons_succ]
  refine headS_take (i := 6) (v := .pointer (some ⟨w.heap.size + 1 + 1 + 1, 2, none⟩)) rfl (by kernel_rfl) (fun _ _ _ h => h) (Or.inl ⟨by rfl, fun w9 hSw => ?_⟩) hHeld ?_
  · (try dsimp only at hSw)
    go_simp
  try simp only [List.getElem_toArray, List.getElem_cons_succ, List.getElem_cons_zero, Act.put, List.setIfInBounds_toArray, List.set_cons_zero, List.set_cons_succ]
  refine headS_take (i := 7) (v := .int .i64 (b : Int)) rfl (by kernel_rfl) (fun _ _ _ h => h) (Or.inl ⟨by rfl, fun w9 hSw => ?_⟩) hHeld ?_
  · (try dsimp only at hSw)
    have i2 : w9.cell? ⟨w.heap.size + 1 + 1 + 1, 2, none⟩ = some (.int .i64 (b : Int)) := cells_below hSw (row_cell H4.out.2.2.2 2) (by have := HZ.out; omega)
    go_simp
  try simp only [List.getElem_toArray, List.getElem_cons_succ, List.getElem_cons_zero, Act.put, List.setIfInBounds_toArray, List.set_cons_zero, List.set_cons_succ]
  refine headS_take (i := 8) (v := .pointer (some ⟨w.heap.size + 1, 1, none⟩)) rfl (by kernel_rfl) (fun _ _ _ h => h) (Or.inl ⟨by rfl, fun w9 hSw => ?_⟩) hHeld ?_
  · (try dsimp only at hSw)
    go_simp
  try simp only [List.getElem_toArray, List.getElem_cons_succ, List.getElem_cons_zero, Act.put, List.setIfInBounds_toArray, List.set_cons_zero, List.set_cons_succ]
  refine headS_take (i := 9) (v := .pointer (some ⟨w.heap.size + 1, 1 + b, none⟩)) rfl (by kernel_rfl) (fun _ _ _ h => h) (Or.inl ⟨by rfl, fun w9 hSw => ?_⟩) hHeld ?_
  · (try dsimp only at hSw)
    go_simp
  try simp only [List.getElem_toArray, List.getElem_cons_succ, List.getElem_cons_zero, Act.put, List.setIfInBounds_toArray, List.set_cons_zero, List.set_cons_succ]
  refine headS_take (i := 10) (v := .int .u64 (x : Int)) rfl (by kernel_rfl) (fun _ _ _ h => h) (Or.inl ⟨by rfl, fun w9 hSw => ?_⟩) hHeld ?_
  · (try dsimp only at hSw)
    have cb := cells_below hSw CBC.out.1 (by have := HZ.out; show w.heap.size + 1 < _; omega)
    go_simp
  try simp only [List.getElem_toArray, List.getElem_cons_succ, List.getElem_cons_zero, Act.put, List.setIfInBounds_toArray, List.set_cons_zero, List.set_cons_succ]
  refine headS_take (i := 11) (v := .pointer (some ⟨w.heap.size + 1 + 1 + 1, 3, none⟩)) rfl (by kernel_rfl) (fun _ _ _ h => h) (Or.inl ⟨by rfl, fun w9 hSw => ?_⟩) hHeld ?_
  · (try dsimp only at hSw)
    go_simp
  try simp only [List.getElem_toArray, List.getElem_cons_succ, List.getElem_cons_zero, Act.put, List.setIfInBounds_toArray, List.set_cons_zero, List.set_cons_succ]
  refine headS_take (i := 12) (v := .int .i64 (c : Int)) rfl (by kernel_rfl) (fun _ _ _ h => h) (Or.inl ⟨by rfl, fun w9 hSw => ?_⟩) hHeld ?_
  · (try dsimp only at hSw)
    have i3 : w9.cell? ⟨w.heap.size + 1 + 1 + 1, 3, none⟩ = some (.int .i64 (c : Int)) := cells_below hSw (row_cell H4.out.2.2.2 3) (by have := HZ.out; omega)
    go_simp
  try simp only [List.getElem_toArray, List.getElem_cons_succ, List.getElem_cons_zero, Act.put, List.setIfInBounds_toArray, List.set_cons_zero, List.set_cons_succ]
  refine headS_take (i := 13) (v := .pointer (some ⟨w.heap.size + 1, 1, none⟩)) rfl (by kernel_rfl) (fun _ _ _ h => h) (Or.inl ⟨by rfl, fun w9 hSw => ?_⟩) hHeld ?_
  · (try dsimp only at hSw)
    go_simp
  try simp only [List.getElem_toArray, List.getElem_cons_succ, List.getElem_cons_zero, Act.put, List.setIfInBounds_toArray, List.set_cons_zero, List.set_cons_succ]
  refine headS_take (i := 14) (v := .pointer (some ⟨w.heap.size + 1, 1 + c, none⟩)) rfl (by kernel_rfl) (fun _ _ _ h => h) (Or.inl ⟨by rfl, fun w9 hSw => ?_⟩) hHeld ?_
  · (try dsimp only at hSw)
    go_simp
  try simp only [List.getElem_toArray, List.getElem_cons_succ, List.getElem_cons_zero, Act.put, List.setIfInBounds_toArray, List.set_cons_zero, List.set_cons_succ]
  refine headS_take (i := 15) (v := .int .u64 (y : Int)) rfl (by kernel_rfl) (fun _ _ _ h => h) (Or.inl ⟨by rfl, fun w9 hSw => ?_⟩) hHeld ?_
  · (try dsimp only at hSw)
    have cc := cells_below hSw CBC.out.2 (by have := HZ.out; show w.heap.size + 1 < _; omega)
    go_simp
  try simp only [List.getElem_toArray, List.getElem_cons_succ, List.getElem_cons_zero, Act.put, List.setIfInBounds_toArray, List.set_cons_zero, List.set_cons_succ]
  refine headS_ready (rs := [16]) (by kernel_rfl) (by simp) (by rfl) ?_
  refine AllS.cons rfl (fun K hK => ?_) AllS.nil
  go_simp
  go_at_call 40
  refine (HAP.out _).mono ?_
  rintro e v7 ⟨rfl, hbv⟩
  have hBv : Below w6.heap.size w6 v7 := (Below.refl _ _).drew.trans hbv
  refine hK.out _ _ hBv (fun hHeld => ?_)
  clear hK K
  try simp only [List.getElem_toArray, List.getElem_cons_succ, List.getElem_cons_zero, Act.put, List.setIfInBounds_toArray, List.set_cons_zero, List.set_cons_succ]
  refine ⟨by kernel_rfl, ?_⟩
  simp only [List.drop_succ_cons, List.drop_zero]
  have h42 := (hBv.block (w.heap.size + 1 + 1) (by have := HZ.out; omega)).trans H4.out.2.2.1
  have hB7 := HB.out.trans (hBv.mono HB.out.size)
  have hz7 : w.heap.size + 4 ≤ v7.heap.size := by have := hBv.size; have := HZ.out; omega
  have H42 := Lib.hid h42
  have HB7 := Lib.hid hB7
  have HZ7 := Lib.hid hz7
  clear h42 hB7 hz7 hBv hbv hHeld
  go_wp2_with fail
  refine (HWI.out _).mono ?_
  rintro e v ⟨rfl, hb⟩
  have HX2 := Lib.hid ((hb.block _ (by have := HZ7.out; omega)).trans H42.out)
  have HBV := Lib.hid (HB7.out.trans (hb.mono HB7.out.size))
  clear hb 
  go_wp2_with (with_reducible refine store_r (.tmp 6) (.tmp 130) (w.heap.size + 1 + 1) _ V HX2.out rfl rfl rfl rfl rfl (HR.out 0 w).sz (HR.out 0 w).one ?_)
  refine ret_r2 (w.heap.size + 1 + 1) V (.int .i64 0) (setRow_heap _ _ _ _ _ _ HX2.out) (HR.out 0 w).sz rfl rfl rfl rfl ?_
  exact ⟨V, rfl, HR.out _ _, below_setRowM HBV.out (by omega) _⟩

end Go.Proofs.YtfhnigfghfmolaaDoor
