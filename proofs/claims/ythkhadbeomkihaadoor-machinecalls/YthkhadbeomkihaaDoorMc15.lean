/-
  The contract of Run: its error ways, and what a run is.
-/
import Derived.Test.YthkhadbeomkihaaDoorMc14
import Derived.Test.YthkhadbeomkihaaDoorMcOk
import Derived.Test.YthkhadbeomkihaaDoorCdLd
namespace Go.Proofs.YthkhadbeomkihaaDoor
set_option maxRecDepth 100000
open Go.RowKit

theorem Rc.new (H : Hd) (M O : Value) (pl r0 r1 r2 r3 r4 r5 r6 r7 : Int) (mm op : List Int) : Rc H M O ⟨pl, [r0, r1, r2, r3, r4, r5, r6, r7], mm, op⟩ 0 #[.int .i64 H.mem, .int .i64 H.stk, .int .i64 H.inp, .slice H.Ad H.ld H.cd, .slice H.Af H.lf H.cf, .slice H.Ac H.lc H.cc, .slice H.Ai H.li H.ci, .int .i64 pl, .int .u64 r0, .int .u64 r1, .int .u64 r2, .int .u64 r3, .int .u64 r4, .int .u64 r5, .int .u64 r6, .int .u64 r7, M, O, .int .i64 0, .func (.func 68) #[] #[], .func (.func 69) #[] #[], .func (.func 70) #[] #[], .func (.func 71) #[] #[], .func (.func 71) #[] #[], .func (.func 71) #[] #[], .func (.func 72) #[] #[], .func (.func 72) #[] #[], .func (.func 71) #[] #[], .func (.func 71) #[] #[], .func (.func 71) #[] #[], .func (.func 71) #[] #[], .func (.func 71) #[] #[], .func (.func 71) #[] #[], .func (.func 71) #[] #[], .func (.func 71) #[] #[], .func (.func 71) #[] #[], .func (.func 73) #[] #[], .func (.func 74) #[] #[], .func (.func 75) #[] #[], .func (.func 76) #[] #[], .func (.func 77) #[] #[], .func (.func 78) #[] #[], .func (.func 79) #[] #[], .func (.func 80) #[] #[], .func (.func 81) #[] #[]] := by
  refine ⟨rfl, rfl, rfl, rfl, rfl, rfl, rfl, rfl, rfl, fun k hk => ?_, rfl, rfl, rfl, fun k hk => ?_⟩
  · match k, hk with
    | 0, _ | 1, _ | 2, _ | 3, _ | 4, _ | 5, _ | 6, _ | 7, _ => rfl
  · match k, hk with
    | 0, _ | 1, _ | 2, _ | 3, _ | 4, _ | 5, _ | 6, _ | 7, _ | 8, _ | 9, _ | 10, _ | 11, _ | 12, _ | 13, _ | 14, _ | 15, _ | 16, _ | 17, _ | 18, _ | 19, _ | 20, _ | 21, _ | 22, _ | 23, _ | 24, _ | 25, _ => rfl
    | k + 26, hk => exact absurd hk (by omega)

/-- A trace's value, and what a run answers. -/
abbrev trC (PV : Value) (en : Int) (rg : List Int) (M : Value) : Array Value := #[PV, .int .i64 en, .int .u64 (rg.getD 0 0), .int .u64 (rg.getD 1 0), .int .u64 (rg.getD 2 0), .int .u64 (rg.getD 3 0), .int .u64 (rg.getD 4 0), .int .u64 (rg.getD 5 0), .int .u64 (rg.getD 6 0), .int .u64 (rg.getD 7 0), M]
def RunP (r : List Int × Int × List Int × List Int × Int) (w : World) (e : Ending) (w' : World) : Prop :=
  ∃ PV M, e = .returned (.tuple #[.agg (trC PV r.2.1 r.2.2.1 M), .int .i64 r.2.2.2.2]) ∧ w'.ownsRow w.heap.size 3 1 PV r.1.length (r.1.map (Value.int .i64)) ∧ w'.ownsRow w.heap.size 5 1 M r.2.2.2.1.length (r.2.2.2.1.map (Value.int .u8)) ∧ Below w.heap.size w w'
def Mc.zero8 : List Int := [0, 0, 0, 0, 0, 0, 0, 0]
/-- Path, end, registers, memory, error. -/
def Mc.answer (p : Im.Pic) (xs : List Int) (steps : Int) : List Int × Int × List Int × List Int × Int :=
  if Im.chk p ≠ 0 then ([], 0, Mc.zero8, [], Im.chk p)
  else if p.inp < xs.length then ([], 0, Mc.zero8, [], 16)
  else ((Mc.run p xs steps).1, (Mc.run p xs steps).2.2, (Mc.run p xs steps).2.1.rg, (Mc.run p xs steps).2.1.mm, 0)

theorem size32 (cs : Array Value) (h : cs.size = 11) : (Tryd.prog.info? 32).map (·.size) = some cs.size := by rw [h]; kernel_rfl
theorem store_tr {ops : Array Oper} {rest : List Oper} {o : Oper} {a : Act} {w : World} {Q : Exit → Act → World → Prop} (x y : Operand) (g : Nat) (old cs : Array Value) (hr : w.heap[g]? = some (.cells old 32 (0, 0))) (hz : old.size = 11) (hgd : o.guard = none) (ho : o.op = .store 32 x y)
    (hx : a.eval x = .pointer (some ⟨g, 0, none⟩)) (hy : a.eval y = .agg cs) (hc : cs.size = 11) (h1 : cs.all (·.oneCell') = true)
    (h : wpList Tryd.prog ops Q rest (a.put o.dst undef) (w.setRow g cs)) : wpList Tryd.prog ops Q (o :: rest) a w :=
  wpList_store_row hgd 32 x y ho g cs hx hy 32 old hr (size32 cs hc) (by rw [hz, hc]) h1 h
theorem ret_tr {fn : Func} {p q : Tmp} {R : Ending → World → Prop} {a : Act} {w : World} (g : Nat) (cs : Array Value) (v : Value) (hr : w.heap[g]? = some (.cells cs 32 (0, 0))) (hc : cs.size = 11) (hf : fn.results = #[.cell p 32, .tmp q]) (hd : a.defers = []) (hp : a.tmps.getD p undef = .pointer (some ⟨g, 0, none⟩)) (hq : a.tmps.getD q undef = v) (hR : R (.returned (.tuple #[.agg cs, v])) w) :
    bodyPost Tryd.prog fn R .ret a w := by
  have hp' : a.tmps[p]?.getD undef = .pointer (some ⟨g, 0, none⟩) := by simpa using hp
  have hq' : a.tmps[q]?.getD undef = v := by simpa using hq
  refine bodyPost_ret (v := .tuple #[.agg cs, v]) ?_ hd hR
  simp [results, hf, hp', hq', asAddr, run_loadVar_row w g 32 32 cs (0, 0) _ hr Tryd.underlying32 rfl (size32 cs hc)]

set_option maxRecDepth 20000 in
set_option maxHeartbeats 6400000 in
theorem run_bad (H : Hd) (steps : Int) (w : World) (ho : Ops w) (HA : HdAt w H) (hc : Im.chk H.p ≠ 0) :
    Calls Tryd.prog 12 #[.agg #[.int .i64 H.mem, .int .i64 H.stk, .int .i64 H.inp, .slice H.Ad H.ld H.cd, .slice H.Af H.lf H.cf, .slice H.Ac H.lc H.cc], .slice H.Ai H.li H.ci, .int .i64 steps] w (RunP (Mc.answer H.p H.xs steps) w) := by
  have ea : Mc.answer H.p H.xs steps = ([], 0, Mc.zero8, [], Im.chk H.p) := by unfold Mc.answer; rw [if_pos hc]
  rw [ea]
  have hp := ho.pos
  have hen : ∀ W, Below w.heap.size w W → Calls Tryd.prog 28 #[.agg #[.int .i64 H.mem, .int .i64 H.stk, .int .i64 H.inp, .slice H.Ad H.ld H.cd, .slice H.Af H.lf H.cf, .slice H.Ac H.lc H.cc]] W fun e w' => ∃ A n cap, e = .returned (.tuple #[.slice A n cap, .int .i64 (Im.chk H.p)]) ∧ BySl w' A n cap (Im.out H.p) ∧ Below W.heap.size W w' := fun W hW =>
    encode_any _ _ _ _ _ _ _ _ _ _ _ _ H.p W (ho.below hW hp) (HA.img.below hW) HA.e0 HA.e1 HA.e2
  generalize Im.chk H.p = c at *
  have HEN := Lib.hid hen
  have hcn : (c != 0) = true := by simpa using hc
  clear hen ho HA hc ea
  go_enter Tryd.func12, Tryd.ntmps12
  go_wp2_with fail
  have hB : Below w.heap.size w ((w.alloc (.cells #[.int .i64 H.mem, .int .i64 H.stk, .int .i64 H.inp, .slice H.Ad H.ld H.cd, .slice H.Af H.lf H.cf, .slice H.Ac H.lc H.cc] 26)).alloc (.cells #[.slice none 0 0, .int .i64 0, .int .u64 0, .int .u64 0, .int .u64 0, .int .u64 0, .int .u64 0, .int .u64 0, .int .u64 0, .int .u64 0, .slice none 0 0] 32)) := ((Below.refl _ _).alloc (Nat.le_refl _) _).alloc (by simp) _
  have h1 : ((w.alloc (.cells #[.int .i64 H.mem, .int .i64 H.stk, .int .i64 H.inp, .slice H.Ad H.ld H.cd, .slice H.Af H.lf H.cf, .slice H.Ac H.lc H.cc] 26)).alloc (.cells #[.slice none 0 0, .int .i64 0, .int .u64 0, .int .u64 0, .int .u64 0, .int .u64 0, .int .u64 0, .int .u64 0, .int .u64 0, .int .u64 0, .slice none 0 0] 32)).heap[w.heap.size]? = some (.cells #[.int .i64 H.mem, .int .i64 H.stk, .int .i64 H.inp, .slice H.Ad H.ld H.cd, .slice H.Af H.lf H.cf, .slice H.Ac H.lc H.cc] 26 (0, 0)) := ((Below.box _ _).block _ (by simp)).trans (heap_newM rfl)
  have h2 : ((w.alloc (.cells #[.int .i64 H.mem, .int .i64 H.stk, .int .i64 H.inp, .slice H.Ad H.ld H.cd, .slice H.Af H.lf H.cf, .slice H.Ac H.lc H.cc] 26)).alloc (.cells #[.slice none 0 0, .int .i64 0, .int .u64 0, .int .u64 0, .int .u64 0, .int .u64 0, .int .u64 0, .int .u64 0, .int .u64 0, .int .u64 0, .slice none 0 0] 32)).heap[w.heap.size + 1]? = some (.cells #[.slice none 0 0, .int .i64 0, .int .u64 0, .int .u64 0, .int .u64 0, .int .u64 0, .int .u64 0, .int .u64 0, .int .u64 0, .int .u64 0, .slice none 0 0] 32 (0, 0)) := heap_newM (by simp)
  have hz : ((w.alloc (.cells #[.int .i64 H.mem, .int .i64 H.stk, .int .i64 H.inp, .slice H.Ad H.ld H.cd, .slice H.Af H.lf H.cf, .slice H.Ac H.lc H.cc] 26)).alloc (.cells #[.slice none 0 0, .int .i64 0, .int .u64 0, .int .u64 0, .int .u64 0, .int .u64 0, .int .u64 0, .int .u64 0, .int .u64 0, .int .u64 0, .slice none 0 0] 32)).heap.size = w.heap.size + 2 := by simp
  generalize (w.alloc (.cells #[.int .i64 H.mem, .int .i64 H.stk, .int .i64 H.inp, .slice H.Ad H.ld H.cd, .slice H.Af H.lf H.cf, .slice H.Ac H.lc H.cc] 26)).alloc (.cells #[.slice none 0 0, .int .i64 0, .int .u64 0, .int .u64 0, .int .u64 0, .int .u64 0, .int .u64 0, .int .u64 0, .int .u64 0, .int .u64 0, .slice none 0 0] 32) = w1 at *
  refine (HEN.out _ hB).mono ?_
  rintro e v ⟨A, n, cap, rfl, hby, hbv⟩
  have hB2 := hB.trans (hbv.mono hB.size)
  have hv1 := (hbv.block _ (by omega)).trans h1
  have hv2 := (hbv.block _ (by omega)).trans h2
  have hvz : w.heap.size + 2 ≤ v.heap.size := by have := hbv.size; omega
  have HB2 := Lib.hid hB2
  have HV1 := Lib.hid hv1
  have HV2 := Lib.hid hv2
  have HVZ := Lib.hid hvz
  clear hB h1 h2 hz hby hbv hB2 hv1 hv2 hvz
  have h1c : (#[.slice none 0 0, .int .i64 0, .int .u64 0, .int .u64 0, .int .u64 0, .int .u64 0, .int .u64 0, .int .u64 0, .int .u64 0, .int .u64 0, .slice none 0 0] : Array Value).all (·.oneCell') = true := by simp [Value.oneCell']
  have H1C := Lib.hid h1c
  clear h1c
  go_wp2_with (first | (with_reducible refine store_tr (.tmp 6) (.tmp 20) _ _ #[.slice none 0 0, .int .i64 0, .int .u64 0, .int .u64 0, .int .u64 0, .int .u64 0, .int .u64 0, .int .u64 0, .int .u64 0, .int .u64 0, .slice none 0 0] HV2.out rfl rfl rfl rfl rfl rfl H1C.out ?_) | fail)
  exact ret_tr (w.heap.size + 1) #[.slice none 0 0, .int .i64 0, .int .u64 0, .int .u64 0, .int .u64 0, .int .u64 0, .int .u64 0, .int .u64 0, .int .u64 0, .int .u64 0, .slice none 0 0] (.int .i64 c) (setRow_heap _ _ _ _ _ _ HV2.out) rfl rfl rfl rfl rfl ⟨.slice none 0 0, .slice none 0 0, rfl, World.ownsRow_nil _ _ _ _, World.ownsRow_nil _ _ _ _, below_setRowM HB2.out (by omega) _⟩

set_option maxRecDepth 20000 in
set_option maxHeartbeats 6400000 in
theorem run_long (H : Hd) (steps : Int) (w : World) (ho : Ops w) (HA : HdAt w H) (hc : Im.chk H.p = 0) (hl : H.p.inp < H.xs.length) :
    Calls Tryd.prog 12 #[.agg #[.int .i64 H.mem, .int .i64 H.stk, .int .i64 H.inp, .slice H.Ad H.ld H.cd, .slice H.Af H.lf H.cf, .slice H.Ac H.lc H.cc], .slice H.Ai H.li H.ci, .int .i64 steps] w (RunP (Mc.answer H.p H.xs steps) w) := by
  have ea : Mc.answer H.p H.xs steps = ([], 0, Mc.zero8, [], 16) := by unfold Mc.answer; rw [if_neg (by simpa using hc), if_pos hl]
  rw [ea]
  have hp := ho.pos
  have hen : ∀ W, Below w.heap.size w W → Calls Tryd.prog 28 #[.agg #[.int .i64 H.mem, .int .i64 H.stk, .int .i64 H.inp, .slice H.Ad H.ld H.cd, .slice H.Af H.lf H.cf, .slice H.Ac H.lc H.cc]] W fun e w' => ∃ A n cap, e = .returned (.tuple #[.slice A n cap, .int .i64 0]) ∧ BySl w' A n cap (Im.out H.p) ∧ Below W.heap.size W w' := fun W hW => by
    have := encode_any _ _ _ _ _ _ _ _ _ _ _ _ H.p W (ho.below hW hp) (HA.img.below hW) HA.e0 HA.e1 HA.e2
    rwa [hc] at this
  have hlen := HA.inp.hlen
  have hin : H.inp < (H.li : Int) := by rw [← HA.e2, ← hlen]; exact hl
  have hlm := Nat.le_trans HA.inp.hle HA.inp.hcap
  unfold maxLen at hlm
  have HEN := Lib.hid hen
  clear hen ho HA hc ea hl hlen
  go_enter Tryd.func12, Tryd.ntmps12
  go_wp2_with fail
  have hB : Below w.heap.size w ((w.alloc (.cells #[.int .i64 H.mem, .int .i64 H.stk, .int .i64 H.inp, .slice H.Ad H.ld H.cd, .slice H.Af H.lf H.cf, .slice H.Ac H.lc H.cc] 26)).alloc (.cells #[.slice none 0 0, .int .i64 0, .int .u64 0, .int .u64 0, .int .u64 0, .int .u64 0, .int .u64 0, .int .u64 0, .int .u64 0, .int .u64 0, .slice none 0 0] 32)) := ((Below.refl _ _).alloc (Nat.le_refl _) _).alloc (by simp) _
  have h1 : ((w.alloc (.cells #[.int .i64 H.mem, .int .i64 H.stk, .int .i64 H.inp, .slice H.Ad H.ld H.cd, .slice H.Af H.lf H.cf, .slice H.Ac H.lc H.cc] 26)).alloc (.cells #[.slice none 0 0, .int .i64 0, .int .u64 0, .int .u64 0, .int .u64 0, .int .u64 0, .int .u64 0, .int .u64 0, .int .u64 0, .int .u64 0, .slice none 0 0] 32)).heap[w.heap.size]? = some (.cells #[.int .i64 H.mem, .int .i64 H.stk, .int .i64 H.inp, .slice H.Ad H.ld H.cd, .slice H.Af H.lf H.cf, .slice H.Ac H.lc H.cc] 26 (0, 0)) := ((Below.box _ _).block _ (by simp)).trans (heap_newM rfl)
  have h2 : ((w.alloc (.cells #[.int .i64 H.mem, .int .i64 H.stk, .int .i64 H.inp, .slice H.Ad H.ld H.cd, .slice H.Af H.lf H.cf, .slice H.Ac H.lc H.cc] 26)).alloc (.cells #[.slice none 0 0, .int .i64 0, .int .u64 0, .int .u64 0, .int .u64 0, .int .u64 0, .int .u64 0, .int .u64 0, .int .u64 0, .int .u64 0, .slice none 0 0] 32)).heap[w.heap.size + 1]? = some (.cells #[.slice none 0 0, .int .i64 0, .int .u64 0, .int .u64 0, .int .u64 0, .int .u64 0, .int .u64 0, .int .u64 0, .int .u64 0, .int .u64 0, .slice none 0 0] 32 (0, 0)) := heap_newM (by simp)
  have hz : ((w.alloc (.cells #[.int .i64 H.mem, .int .i64 H.stk, .int .i64 H.inp, .slice H.Ad H.ld H.cd, .slice H.Af H.lf H.cf, .slice H.Ac H.lc H.cc] 26)).alloc (.cells #[.slice none 0 0, .int .i64 0, .int .u64 0, .int .u64 0, .int .u64 0, .int .u64 0, .int .u64 0, .int .u64 0, .int .u64 0, .int .u64 0, .slice none 0 0] 32)).heap.size = w.heap.size + 2 := by simp
  generalize (w.alloc (.cells #[.int .i64 H.mem, .int .i64 H.stk, .int .i64 H.inp, .slice H.Ad H.ld H.cd, .slice H.Af H.lf H.cf, .slice H.Ac H.lc H.cc] 26)).alloc (.cells #[.slice none 0 0, .int .i64 0, .int .u64 0, .int .u64 0, .int .u64 0, .int .u64 0, .int .u64 0, .int .u64 0, .int .u64 0, .int .u64 0, .slice none 0 0] 32) = w1 at *
  refine (HEN.out _ hB).mono ?_
  rintro e v ⟨A, n, cap, rfl, hby, hbv⟩
  have hB2 := hB.trans (hbv.mono hB.size)
  have hv1 := (hbv.block _ (by omega)).trans h1
  have hv2 := (hbv.block _ (by omega)).trans h2
  have hvz : w.heap.size + 2 ≤ v.heap.size := by have := hbv.size; omega
  have HB2 := Lib.hid hB2
  have HV1 := Lib.hid hv1
  have HV2 := Lib.hid hv2
  have HVZ := Lib.hid hvz
  clear hB h1 h2 hz hby hbv hB2 hv1 hv2 hvz
  have h1c : (#[.slice none 0 0, .int .i64 0, .int .u64 0, .int .u64 0, .int .u64 0, .int .u64 0, .int .u64 0, .int .u64 0, .int .u64 0, .int .u64 0, .slice none 0 0] : Array Value).all (·.oneCell') = true := by simp [Value.oneCell']
  have H1C := Lib.hid h1c
  have q2 := row_cell HV1.out 2
  simp at q2
  clear h1c
  go_wp2_with (first | (with_reducible refine store_tr (.tmp 6) (.tmp 27) _ _ #[.slice none 0 0, .int .i64 0, .int .u64 0, .int .u64 0, .int .u64 0, .int .u64 0, .int .u64 0, .int .u64 0, .int .u64 0, .int .u64 0, .slice none 0 0] HV2.out rfl rfl rfl rfl rfl rfl H1C.out ?_) | fail)
  exact ret_tr (w.heap.size + 1) #[.slice none 0 0, .int .i64 0, .int .u64 0, .int .u64 0, .int .u64 0, .int .u64 0, .int .u64 0, .int .u64 0, .int .u64 0, .int .u64 0, .slice none 0 0] (.int .i64 16) (setRow_heap _ _ _ _ _ _ HV2.out) rfl rfl rfl rfl rfl ⟨.slice none 0 0, .slice none 0 0, rfl, World.ownsRow_nil _ _ _ _, World.ownsRow_nil _ _ _ _, below_setRowM HB2.out (by omega) _⟩
end Go.Proofs.YthkhadbeomkihaaDoor
