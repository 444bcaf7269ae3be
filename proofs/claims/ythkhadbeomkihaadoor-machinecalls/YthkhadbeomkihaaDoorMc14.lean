/-
  The contract of Start.
-/
import Derived.Test.YthkhadbeomkihaaDoorMc13
import Derived.Laws.CopyOwn
import Derived.Deep.OwnRows
namespace Go.Proofs.YthkhadbeomkihaaDoor
set_option maxRecDepth 100000
open Go.RowKit

theorem u8_size : (Tryd.prog.info? 5).map (·.size) = some 1 := by kernel_rfl
theorem madeL (z : Value) (n : Nat) : madeCells #[z] n = (List.replicate n z).toArray := by
  refine Array.ext (by rw [size_madeCells]; simp) fun i h1 h2 => ?_
  simp [madeCells, Nat.mod_one]
theorem size43 (cs : Array Value) (h : cs.size = 11) : (Tryd.prog.info? 43).map (·.size) = some cs.size := by rw [h]; kernel_rfl
theorem store_st {ops : Array Oper} {rest : List Oper} {o : Oper} {a : Act} {w : World} {Q : Exit → Act → World → Prop} (x y : Operand) (g : Nat) (old cs : Array Value) (hr : w.heap[g]? = some (.cells old 43 (0, 0))) (hz : old.size = 11) (hgd : o.guard = none) (ho : o.op = .store 43 x y)
    (hx : a.eval x = .pointer (some ⟨g, 0, none⟩)) (hy : a.eval y = .agg cs) (hc : cs.size = 11) (h1 : cs.all (·.oneCell') = true)
    (h : wpList Tryd.prog ops Q rest (a.put o.dst undef) (w.setRow g cs)) : wpList Tryd.prog ops Q (o :: rest) a w :=
  wpList_store_row hgd 43 x y ho g cs hx hy 43 old hr (size43 cs hc) (by rw [hz, hc]) h1 h
theorem ret_st {fn : Func} {p : Tmp} {R : Ending → World → Prop} {a : Act} {w : World} (g : Nat) (cs : Array Value) (hr : w.heap[g]? = some (.cells cs 43 (0, 0))) (hc : cs.size = 11) (hf : fn.results = #[.cell p 43]) (hd : a.defers = []) (hp : a.tmps.getD p undef = .pointer (some ⟨g, 0, none⟩)) (hR : R (.returned (.agg cs)) w) :
    bodyPost Tryd.prog fn R .ret a w :=
  bodyPost_ret (results_cell_row hf a.tmps w g 43 cs (0, 0) _ hp hr Tryd.underlying43 rfl (size43 cs hc)) hd hR
/-- The memory at the start. -/
def Mc.mem0 (p : Im.Pic) : List Int := p.ds ++ List.replicate (p.mem.toNat - p.ds.length) 0

set_option maxRecDepth 20000 in
set_option maxHeartbeats 3200000 in
theorem start_any (mem stk inp : Int) (Ad : Option Addr) (ld cd : Nat) (Af : Option Addr) (lf cf : Nat) (Ac : Option Addr) (lc cc : Nat) (p : Im.Pic) (w : World) (hi : ImAt w Ad ld cd Af lf cf Ac lc cc p) (e0 : p.mem = mem) (m0 : 0 ≤ mem) (m1 : mem ≤ 64) (hd : (ld : Int) ≤ mem) :
    Calls Tryd.prog 22 #[.agg #[.int .i64 mem, .int .i64 stk, .int .i64 inp, .slice Ad ld cd, .slice Af lf cf, .slice Ac lc cc]] w fun e w' => ∃ g n, e = .returned (.agg #[.int .i64 0, .int .u64 0, .int .u64 0, .int .u64 0, .int .u64 0, .int .u64 0, .int .u64 0, .int .u64 0, .int .u64 0, .slice (some ⟨g, 0, none⟩) n n, .slice none 0 0]) ∧ w.heap.size ≤ g ∧ mem = n ∧ w'.heap[g]? = some (.cells ((Mc.mem0 p).map (Value.int .u8)).toArray 5 (0, 0)) ∧ Below w.heap.size w w' := by
  obtain ⟨n, hn⟩ := Int.eq_ofNat_of_zero_le m0
  subst hn
  have hbd := hi.d
  have hmk : ∀ W : World, (Instr.makeSlice 22 (.int .i64 (n : Int)) (.int .i64 (n : Int))).run Tryd.prog W = .ok (.slice (some ⟨W.heap.size, 0, none⟩) n n) (W.alloc (.cells (madeCells #[.int .u8 0] n) 5)) := fun W =>
    run_make_row' 22 5 (.int .u8 0) 1 Tryd.underlying22 u8_info rfl .i64 .i64 n (by omega) (by omega) W
  have hmx : max (n : Int) 0 = n := by omega
  have hmn : min (n : Int) 64 = n := by omega
  have HI := Lib.hid hi
  have HD := Lib.hid hbd
  clear hi hbd
  go_enter Tryd.func22, Tryd.ntmps22
  go_upto_region 2 with (fail)
  have h3 := three w (.cells #[.int .i64 (n : Int), .int .i64 stk, .int .i64 inp, .slice Ad ld cd, .slice Af lf cf, .slice Ac lc cc] 26) (.cells #[.int .i64 0, .int .u64 0, .int .u64 0, .int .u64 0, .int .u64 0, .int .u64 0, .int .u64 0, .int .u64 0, .int .u64 0, .slice none 0 0, .slice none 0 0] 43) (.cells (madeCells #[.int .u8 0] n) 5)
  have hB : Below w.heap.size w (((w.alloc (.cells #[.int .i64 (n : Int), .int .i64 stk, .int .i64 inp, .slice Ad ld cd, .slice Af lf cf, .slice Ac lc cc] 26)).alloc (.cells #[.int .i64 0, .int .u64 0, .int .u64 0, .int .u64 0, .int .u64 0, .int .u64 0, .int .u64 0, .int .u64 0, .int .u64 0, .slice none 0 0, .slice none 0 0] 43)).alloc (.cells (madeCells #[.int .u8 0] n) 5)) := (((Below.refl _ _).alloc (Nat.le_refl _) _).alloc (by simp) _).alloc (by simp; omega) _
  have hz : (((w.alloc (.cells #[.int .i64 (n : Int), .int .i64 stk, .int .i64 inp, .slice Ad ld cd, .slice Af lf cf, .slice Ac lc cc] 26)).alloc (.cells #[.int .i64 0, .int .u64 0, .int .u64 0, .int .u64 0, .int .u64 0, .int .u64 0, .int .u64 0, .int .u64 0, .int .u64 0, .slice none 0 0, .slice none 0 0] 43)).alloc (.cells (madeCells #[.int .u8 0] n) 5)).heap.size = w.heap.size + 3 := by simp
  generalize ((w.alloc (.cells #[.int .i64 (n : Int), .int .i64 stk, .int .i64 inp, .slice Ad ld cd, .slice Af lf cf, .slice Ac lc cc] 26)).alloc (.cells #[.int .i64 0, .int .u64 0, .int .u64 0, .int .u64 0, .int .u64 0, .int .u64 0, .int .u64 0, .int .u64 0, .int .u64 0, .slice none 0 0, .slice none 0 0] 43)).alloc (.cells (madeCells #[.int .u8 0] n) 5) = w3 at *
  rw [madeL] at h3
  have HB := Lib.hid hB
  have H3 := Lib.hid h3
  have HZ := Lib.hid hz
  have HDL := Lib.hid HD.out.hlen
  have q3 := row_cell h3.1 3
  simp at q3
  have hsl := (HD.out.below hB).sl
  have hp : 0 < (p.ds.map (Value.int .u8)).length → some (⟨w.heap.size + 1 + 1, 0, none⟩ : Addr) = some ⟨w.heap.size + 1 + 1, 0, none⟩ ∧ ∃ ad, Ad = some ad ∧ ∀ j v, (p.ds.map (Value.int .u8))[j]? = some v → w3.cell? (ad.add j) = some v := fun h0 => ⟨rfl, by
    obtain ⟨b, o, e, _, hc⟩ := hsl.2 (by rw [← hsl.1]; exact h0)
    exact ⟨_, e, hc⟩⟩
  have HP := Lib.hid hp
  have hmin : Nat.min ld n = ld := Nat.min_eq_left (by omega)
  have hl1 : (p.ds.map (Value.int .u8)).length = Nat.min ld n := by rw [hmin, List.length_map]; exact HDL.out
  have hl2 : 0 + (p.ds.map (Value.int .u8)).length ≤ (List.replicate n (Value.int .u8 0)).length := by simp; have := HDL.out; omega
  have HL1 := Lib.hid hl1
  have HL2 := Lib.hid hl2
  clear hB h3 hz hmk hmx hmn hmin hsl hp hl1 hl2
  go_upto_region 3 with (
    with_reducible change wpList _ _ _ ({ dst := some 12, op := _, type := _, pos := _, after := _, guard := _ } :: _) _ _
    refine wpList_copy_splice (w := w3) rfl (.tmp 9) (.tmp 11) 22 22 rfl 5 Tryd.underlying22 u8_size (some ⟨w.heap.size + 1 + 1, 0, none⟩) Ad n n ld cd rfl rfl (w.heap.size + 1 + 1) 0 (List.replicate n (.int .u8 0)) 5 H3.out.2.2 (p.ds.map (Value.int .u8)) HL1.out HP.out HL2.out (one_cell _) (w.heap.size + 1 + 1) w3 (Below.refl _ _) (Nat.le_refl _) ?_
    intro w4 hw4 hb4)
  have hst : w4.heap[w.heap.size + 1]? = some (.cells #[.int .i64 0, .int .u64 0, .int .u64 0, .int .u64 0, .int .u64 0, .int .u64 0, .int .u64 0, .int .u64 0, .int .u64 0, .slice none 0 0, .slice none 0 0] 43 (0, 0)) := (hb4.block _ (by omega)).trans H3.out.2.1
  have hsp : splice (List.replicate n (Value.int .u8 0)) 0 (p.ds.map (Value.int .u8)) = (Mc.mem0 p).map (Value.int .u8) := by
    unfold splice Mc.mem0
    rw [e0]
    simp
  rw [hsp] at hw4
  have HS := Lib.hid hst
  have HB4 := Lib.hid (HB.out.trans (hb4.mono (by omega)))
  clear hst hb4 hsp q3
  have h1c : (#[.int .i64 0, .int .u64 0, .int .u64 0, .int .u64 0, .int .u64 0, .int .u64 0, .int .u64 0, .int .u64 0, .int .u64 0, .slice (some ⟨w.heap.size + 1 + 1, 0, none⟩) n n, .slice none 0 0] : Array Value).all (·.oneCell') = true := by simp [Value.oneCell']
  have H1C := Lib.hid h1c
  clear h1c
  go_wp2_with (first | (with_reducible refine store_st (.tmp 2) (.tmp 14) _ _ #[.int .i64 0, .int .u64 0, .int .u64 0, .int .u64 0, .int .u64 0, .int .u64 0, .int .u64 0, .int .u64 0, .int .u64 0, .slice (some ⟨w.heap.size + 1 + 1, 0, none⟩) n n, .slice none 0 0] HS.out rfl rfl rfl rfl rfl rfl H1C.out ?_) | fail)
  refine ret_st (w.heap.size + 1) #[.int .i64 0, .int .u64 0, .int .u64 0, .int .u64 0, .int .u64 0, .int .u64 0, .int .u64 0, .int .u64 0, .int .u64 0, .slice (some ⟨w.heap.size + 1 + 1, 0, none⟩) n n, .slice none 0 0] (setRow_heap _ _ _ _ _ _ HS.out) rfl rfl rfl rfl ?_
  refine ⟨w.heap.size + 1 + 1, n, rfl, by omega, rfl, ?_, below_setRowM HB4.out (by omega) _⟩
  rw [setRow_other _ _ _ _ (by omega)]
  exact hw4.out
end Go.Proofs.YthkhadbeomkihaaDoor
