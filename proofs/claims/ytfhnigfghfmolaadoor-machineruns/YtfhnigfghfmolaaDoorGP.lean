/-
  MachineSteps: a state that comes in; the law's walk.
-/
import Derived.Test.YtfhnigfghfmolaaDoorGO
set_option linter.unusedSimpArgs false
set_option linter.unusedVariables false
namespace Go.Proofs.YtfhnigfghfmolaaDoor
set_option maxRecDepth 100000
open Go.RowKit Go.ChangeShapes Go.WideShapes Go.ChangeAt Go.Deep

section
variable {H : Type} {enc : TypeId × Value → H} {W : World} {b : Nat} {sp : Nat → Bool} {hd : Bool}
theorem cellsRegs : Tryd.prog.cellsOf 30 = 8 := by kernel_rfl
theorem cellsSt : Tryd.prog.cellsOf 43 = 11 := by kernel_rfl
/-- A state that comes in. -/
theorem open_st {base : Nat} {v : Value} {d : DataW H} {p : List MemPlace} (hv : Value.okWide Tryd.prog W .any base 43 v) (h : DataW.Trod enc Tryd.prog W b sp hd 43 v d p) (hsp : ∀ k, sp k = true) :
    ∃ (pl z0 z1 z2 z3 z4 z5 z6 z7 : Int) (MA : Option Addr) (mn mc : Nat) (OA : Option Addr) (on occ : Nat) (mm op : List Int), v = .agg #[.int .i64 pl, .int .u64 z0, .int .u64 z1, .int .u64 z2, .int .u64 z3, .int .u64 z4, .int .u64 z5, .int .u64 z6, .int .u64 z7, .slice MA mn mc, .slice OA on occ] ∧ BySl W MA mn mc mm ∧ InSl W OA on occ op ∧ ∀ y ∈ ([z0, z1, z2, z3, z4, z5, z6, z7] : List Int), 0 ≤ y ∧ y < 18446744073709551616 := by
  obtain ⟨cs, rfl, hsz⟩ := okWide_struct Tryd.underlying43 hv
  obtain ⟨l⟩ := cs
  match l, hsz.trans cellsSt with
  | [v0, v1, v2, v3, v4, v5, v6, v7, v8, v9, v10], _ =>
    obtain ⟨fuel, hf⟩ := h
    obtain ⟨xs, n, _, hx, _, hlen, hg⟩ := DataW.trod_struct Tryd.underlying43 hf
    have g0 := hg 0 _ rfl
    have g1 := hg 1 _ rfl
    have g2 := hg 2 _ rfl
    have g3 := hg 3 _ rfl
    match xs, hlen with
    | [y0, y1, y2, y3], _ =>
      simp [Value.cells, cells3, cells22, cells23, cellsRegs] at g0 g1 g2 g3
      obtain ⟨n0, e0, _, _⟩ := DataW.trod_int Tryd.underlying3 g0
      have ga := DataW.trod_array Tryd.underlying30 g1
      obtain ⟨ys, m, _, _, _, hxl, hi⟩ := ga
      match ys, hxl with
      | [a0, a1, a2, a3, a4, a5, a6, a7], _ =>
        have f0 := hi 0 (by omega)
        have f1 := hi 1 (by omega)
        have f2 := hi 2 (by omega)
        have f3 := hi 3 (by omega)
        have f4 := hi 4 (by omega)
        have f5 := hi 5 (by omega)
        have f6 := hi 6 (by omega)
        have f7 := hi 7 (by omega)
        simp [cells41] at f0 f1 f2 f3 f4 f5 f6 f7
        obtain ⟨r0, e3, _, w0⟩ := DataW.trod_int Tryd.underlying29 f0
        obtain ⟨r1, e4, _, w1⟩ := DataW.trod_int Tryd.underlying29 f1
        obtain ⟨r2, e5, _, w2⟩ := DataW.trod_int Tryd.underlying29 f2
        obtain ⟨r3, e6, _, w3⟩ := DataW.trod_int Tryd.underlying29 f3
        obtain ⟨r4, e7, _, w4⟩ := DataW.trod_int Tryd.underlying29 f4
        obtain ⟨r5, e8, _, w5⟩ := DataW.trod_int Tryd.underlying29 f5
        obtain ⟨r6, e9, _, w6⟩ := DataW.trod_int Tryd.underlying29 f6
        obtain ⟨r7, e10, _, w7⟩ := DataW.trod_int Tryd.underlying29 f7
        simp at e0 e3 e4 e5 e6 e7 e8 e9 e10
        subst e0 e3 e4 e5 e6 e7 e8 e9 e10
        have hu : ∀ r : Int, (Lit.int .u64 r).wf = true → 0 ≤ r ∧ r < 18446744073709551616 := fun r h => by
          have h3 : 0 ≤ r ∧ r ≤ 18446744073709551615 := by simpa [Lit.wf, IntKind.min, IntKind.max, IntKind.signed, IntKind.bits] using h
          omega
        obtain ⟨Am, lm, cm, mm, rfl, hm'⟩ := bytes_of_trod g2 hsp
        obtain ⟨Ao, lo, co, op, rfl, ho'⟩ := ints_of_trod g3 hsp
        refine ⟨n0, r0, r1, r2, r3, r4, r5, r6, r7, Am, lm, cm, Ao, lo, co, mm, op, rfl, hm', ho', fun y hy => ?_⟩
        simp only [List.mem_cons, List.not_mem_nil, or_false] at hy
        rcases hy with rfl | rfl | rfl | rfl | rfl | rfl | rfl | rfl
        · exact hu _ w0
        · exact hu _ w1
        · exact hu _ w2
        · exact hu _ w3
        · exact hu _ w4
        · exact hu _ w5
        · exact hu _ w6
        · exact hu _ w7
end

theorem rStep_by (H : Hd) (s : Mc.St) (MA : Option Addr) (mn mc : Nat) (OA : Option Addr) (on occ : Nat) (w : World) (HA : HdAt w H) (hR : Mc.R H.p) (hok : Mc.Ok H.p s) (hlM : H.li < 1000000) (hm : BySl w MA mn mc s.mm) (hp : InSl w OA on occ s.op) :
    Calls Tryd.prog 20 #[.agg #[.int .i64 H.mem, .int .i64 H.stk, .int .i64 H.inp, .slice H.Ad H.ld H.cd, .slice H.Af H.lf H.cf, .slice H.Ac H.lc H.cc], .slice H.Ai H.li H.ci, .agg (stC s (.slice MA mn mc) (.slice OA on occ))] w fun e w' => ∃ mA' mcap' oA' ocap',
      e = .returned (.tuple #[.agg (stC (Mc.step H.p H.xs s).1 (.slice mA' (Mc.step H.p H.xs s).1.mm.length mcap') (.slice oA' (Mc.step H.p H.xs s).1.op.length ocap')), .int .i64 (Mc.step H.p H.xs s).2]) ∧ BySl w' mA' (Mc.step H.p H.xs s).1.mm.length mcap' (Mc.step H.p H.xs s).1.mm ∧ InSl w' oA' (Mc.step H.p H.xs s).1.op.length ocap' (Mc.step H.p H.xs s).1.op ∧ Below w.heap.size w w' := by
  have hib : Cd.isB (Mc.step H.p H.xs s).1.mm := Mc.step_isB hok.mb
  refine (rStep_any H s MA mn mc OA on occ w HA hR hok hlM hm hp).mono ?_
  rintro e w' ⟨V, rfl, ⟨mA', mcap', oA', ocap', rfl, h1, h2⟩, hb⟩
  refine ⟨mA', mcap', oA', ocap', rfl, ?_, ?_, hb⟩
  · rcases h1 with ⟨rfl, rfl, h⟩ | h
    · rw [h, hm.hlen]; exact hm.below hb
    · exact BySl.of_own h hib
  · rcases h2 with ⟨rfl, rfl, h⟩ | h
    · rw [h, hp.hlen]; exact hp.below hb
    · exact InSl.of_own h
theorem InSl.nil {w : World} : InSl w none 0 0 [] := ⟨rfl, Nat.le_refl _, Nat.zero_le _, fun _ => rfl, fun h0 => absurd h0 (by omega)⟩

set_option maxRecDepth 20000 in
set_option maxHeartbeats 12800000 in
theorem steps_walk (mem stk inp : Int) (Ad : Option Addr) (ld cd : Nat) (Af : Option Addr) (lf cf : Nat) (Ac : Option Addr) (lc cc : Nat) (P : Im.Pic) (Ai : Option Addr) (li ci : Nat) (xs : List Int) (pl z0 z1 z2 z3 z4 z5 z6 z7 : Int) (MA : Option Addr) (mn mc : Nat) (OA : Option Addr) (on occ : Nat) (mm op : List Int) (w : World) (ho : Ops w) (hi : ImAt w Ad ld cd Af lf cf Ac lc cc P) (e0 : P.mem = mem) (e1 : P.stk = stk) (e2 : P.inp = inp) (hx : BySl w Ai li ci xs) (hm : BySl w MA mn mc mm) (hp : InSl w OA on occ op) (hr : ∀ y ∈ ([z0, z1, z2, z3, z4, z5, z6, z7] : List Int), 0 ≤ y ∧ y < 18446744073709551616) :
    Calls Tryd.prog 4 #[.agg #[.int .i64 mem, .int .i64 stk, .int .i64 inp, .slice Ad ld cd, .slice Af lf cf, .slice Ac lc cc], .slice Ai li ci, .agg #[.int .i64 pl, .int .u64 z0, .int .u64 z1, .int .u64 z2, .int .u64 z3, .int .u64 z4, .int .u64 z5, .int .u64 z6, .int .u64 z7, .slice MA mn mc, .slice OA on occ]] w fun e w' => e = .returned (.bool true) ∧ Below w.heap.size w w' := by
  have hpos := ho.pos
  have HA : HdAt w ⟨mem, stk, inp, Ad, ld, cd, Af, lf, cf, Ac, lc, cc, Ai, li, ci, P, xs⟩ := ⟨hi, e0, e1, e2, hx⟩
  have hld := Nat.le_trans hi.d.hle hi.d.hcap
  have hlf := Nat.le_trans hi.f.hle hi.f.hcap
  have hlc := Nat.le_trans hi.c.hle hi.c.hcap
  have hli := Nat.le_trans hx.hle hx.hcap
  have hgr := fun W => great_any mem stk inp Ad ld cd Af lf cf Ac lc cc Ai li ci 0 W hld hlf hlc hli
  unfold maxLen at hli hlc
  have haw : ∀ W, Below w.heap.size w W → Calls Tryd.prog 10 #[] W fun e w' => e = .returned (.bool true) ∧ Below W.heap.size W w' := fun W hW => mc_awake W (ho.below hW hpos)
  have hstt : Mc.R P → ∀ W, Below w.heap.size w W → _ := fun hR W hW => Start_st ⟨mem, stk, inp, Ad, ld, cd, Af, lf, cf, Ac, lc, cc, Ai, li, ci, P, xs⟩ W (HA.below hW) hR
  have hrst : Mc.R P → ∃ n : Nat, mem = n ∧ (Mc.mem0 P).length = n ∧ ∀ W, Below w.heap.size w W → Calls Tryd.prog 23 #[.agg #[.int .i64 mem, .int .i64 stk, .int .i64 inp, .slice Ad ld cd, .slice Af lf cf, .slice Ac lc cc]] W fun e w' => ∃ A cap, e = .returned (.agg #[.int .i64 0, .int .u64 0, .int .u64 0, .int .u64 0, .int .u64 0, .int .u64 0, .int .u64 0, .int .u64 0, .int .u64 0, .slice A n cap, .slice none 0 0]) ∧ w'.ownsRow W.heap.size 5 1 (.slice A n cap) n ((Mc.mem0 P).map (Value.int .u8)) ∧ Below W.heap.size W w' := fun hR => by
    have hC := hR.cnt
    have hdl := hi.d.hlen
    obtain ⟨n, hn⟩ : ∃ n : Nat, mem = n := ⟨mem.toNat, by have := hC.1; omega⟩
    subst hn
    have h1 := hC.1
    have h2 := hC.2.2.2.1
    refine ⟨n, rfl, ?_, fun W hW => rstart_any n stk inp Ad ld cd Af lf cf Ac lc cc P W (hi.d.below hW) e0 (by omega) (by omega)⟩
    unfold Mc.mem0
    simp
    omega
  have hstp : Mc.R P → ∀ s, Mc.Ok P s → ∀ W mA mn mcap oA on ocap, Below w.heap.size w W → BySl W mA mn mcap s.mm → InSl W oA on ocap s.op → _ := fun hR s hok W mA mn mcap oA on ocap hW hm hp' => Step_st ⟨mem, stk, inp, Ad, ld, cd, Af, lf, cf, Ac, lc, cc, Ai, li, ci, P, xs⟩ s mA mn mcap oA on ocap W (ho.below hW hpos) (HA.below hW) hR hok hm hp'
  have hrsp : Mc.R P → li < 1000000 → ∀ s, Mc.Ok P s → ∀ W mA mn mcap oA on ocap, Below w.heap.size w W → BySl W mA mn mcap s.mm → InSl W oA on ocap s.op → _ := fun hR hl s hok W mA mn mcap oA on ocap hW hm hp' => rStep_by ⟨mem, stk, inp, Ad, ld, cd, Af, lf, cf, Ac, lc, cc, Ai, li, ci, P, xs⟩ s mA mn mcap oA on ocap W (HA.below hW) hR hok hl hm hp'
  have hrr : Mc.R P → mn ≤ 1000000 → on ≤ 1000000 → ∀ W, Below w.heap.size w W → Calls Tryd.prog 18 #[.agg #[.int .i64 mem, .int .i64 stk, .int .i64 inp, .slice Ad ld cd, .slice Af lf cf, .slice Ac lc cc], .agg #[.int .i64 pl, .int .u64 z0, .int .u64 z1, .int .u64 z2, .int .u64 z3, .int .u64 z4, .int .u64 z5, .int .u64 z6, .int .u64 z7, .slice MA mn mc, .slice OA on occ]] W (RrP ((0 ≤ pl ∧ pl < P.cs.length) ∧ (mn : Int) = mem ∧ (on : Int) ≤ stk ∧ ∀ q ∈ op, 0 ≤ q ∧ q < P.cs.length) W) := fun hR h1 h2 W hW => rrst_any ⟨mem, stk, inp, Ad, ld, cd, Af, lf, cf, Ac, lc, cc, Ai, li, ci, P, xs⟩ hR pl z0 z1 z2 z3 z4 z5 z6 z7 mm op MA mn mc OA on occ W (HA.below hW) (hp.below hW) h1 h2
  have hrt : greatB ld lf lc li 0 = false → ∀ W, Below w.heap.size w W → Calls Tryd.prog 17 #[.agg #[.int .i64 mem, .int .i64 stk, .int .i64 inp, .slice Ad ld cd, .slice Af lf cf, .slice Ac lc cc]] W fun e w' => e = .returned (.bool (decide (Im.chk P = 0))) ∧ Below W.heap.size W w' := fun hg W hW => by
    unfold greatB fewB at hg
    simp at hg
    exact rright_any ⟨mem, stk, inp, Ad, ld, cd, Af, lf, cf, Ac, lc, cc, Ai, li, ci, P, xs⟩ W (HA.below hW) (by show lc ≤ _; omega) (by show lf ≤ _; omega) (by show ld ≤ _; omega)
  have hlm : greatB ld lf lc li 0 = false → li < 1000000 := fun hg => by
    unfold greatB fewB at hg
    simp at hg
    omega
  have hq := hgr
  generalize greatB ld lf lc li 0 = q at *
  have HGR := Lib.hid hq
  have HAW := Lib.hid haw
  have HRT := Lib.hid hrt
  have HRR := Lib.hid hrr
  have H43 := Lib.hid hstt
  have H45 := Lib.hid hrst
  have HSTP := Lib.hid hstp
  have HRSP := Lib.hid hrsp
  have HLM := Lib.hid hlm
  have HHD := Lib.hid hi.d.isB
  have HM := Lib.hid hm
  have HP := Lib.hid hp
  have HRG := Lib.hid hr
  have HE := Lib.hid (And.intro e0 e1)
  clear hq haw hrt hrr hstt hrst hstp hrsp hlm hm hp hr hgr hi hx HA e0 e1 e2 ho hlc hli hld hlf
  have hX0 : ((w.alloc (.cells #[.int .i64 mem, .int .i64 stk, .int .i64 inp, .slice Ad ld cd, .slice Af lf cf, .slice Ac lc cc] 26)).alloc (.cells #[.int .i64 pl, .int .u64 z0, .int .u64 z1, .int .u64 z2, .int .u64 z3, .int .u64 z4, .int .u64 z5, .int .u64 z6, .int .u64 z7, .slice MA mn mc, .slice OA on occ] 43)).heap[w.heap.size]? = some (.cells #[.int .i64 mem, .int .i64 stk, .int .i64 inp, .slice Ad ld cd, .slice Af lf cf, .slice Ac lc cc] 26 (0, 0)) := ((Below.box _ _).block _ (by simp)).trans (heap_newM rfl)
  have hX1 : ((w.alloc (.cells #[.int .i64 mem, .int .i64 stk, .int .i64 inp, .slice Ad ld cd, .slice Af lf cf, .slice Ac lc cc] 26)).alloc (.cells #[.int .i64 pl, .int .u64 z0, .int .u64 z1, .int .u64 z2, .int .u64 z3, .int .u64 z4, .int .u64 z5, .int .u64 z6, .int .u64 z7, .slice MA mn mc, .slice OA on occ] 43)).heap[w.heap.size + 1]? = some (.cells #[.int .i64 pl, .int .u64 z0, .int .u64 z1, .int .u64 z2, .int .u64 z3, .int .u64 z4, .int .u64 z5, .int .u64 z6, .int .u64 z7, .slice MA mn mc, .slice OA on occ] 43 (0, 0)) := heap_newM (by simp)
  have hB0 : Below w.heap.size w ((w.alloc (.cells #[.int .i64 mem, .int .i64 stk, .int .i64 inp, .slice Ad ld cd, .slice Af lf cf, .slice Ac lc cc] 26)).alloc (.cells #[.int .i64 pl, .int .u64 z0, .int .u64 z1, .int .u64 z2, .int .u64 z3, .int .u64 z4, .int .u64 z5, .int .u64 z6, .int .u64 z7, .slice MA mn mc, .slice OA on occ] 43)) := ((Below.refl _ _).alloc (Nat.le_refl _) _).alloc (by simp) _
  have hz0 : ((w.alloc (.cells #[.int .i64 mem, .int .i64 stk, .int .i64 inp, .slice Ad ld cd, .slice Af lf cf, .slice Ac lc cc] 26)).alloc (.cells #[.int .i64 pl, .int .u64 z0, .int .u64 z1, .int .u64 z2, .int .u64 z3, .int .u64 z4, .int .u64 z5, .int .u64 z6, .int .u64 z7, .slice MA mn mc, .slice OA on occ] 43)).heap.size = w.heap.size + 2 := by simp
  go_enter Tryd.func4, Tryd.ntmps4
  go_wp2_with fail
  generalize ((w.alloc (.cells #[.int .i64 mem, .int .i64 stk, .int .i64 inp, .slice Ad ld cd, .slice Af lf cf, .slice Ac lc cc] 26)).alloc (.cells #[.int .i64 pl, .int .u64 z0, .int .u64 z1, .int .u64 z2, .int .u64 z3, .int .u64 z4, .int .u64 z5, .int .u64 z6, .int .u64 z7, .slice MA mn mc, .slice OA on occ] 43)) = w0 at *
  refine (HAW.out _ hB0).mono ?_
  rintro e v1 ⟨rfl, hb⟩
  have HX1 := Lib.hid (And.intro ((hb.block _ (by omega)).trans hX0) ((hb.block _ (by omega)).trans hX1))
  have HB1 := Lib.hid (hB0.trans (hb.mono hB0.size))
  have HZ1 := Lib.hid (show w.heap.size + 2 ≤ v1.heap.size by have := hb.size; omega)
  clear hB0 hX0 hX1 hz0 hb
  have q0 := row_cell HX1.out.1 0
  have q1 := row_cell HX1.out.1 1
  have q2 := row_cell HX1.out.1 2
  have q3 := row_cell HX1.out.1 3
  have q4 := row_cell HX1.out.1 4
  have q5 := row_cell HX1.out.1 5
  simp at q0 q1 q2 q3 q4 q5
  go_wp2_with fail
  refine (HGR.out _).mono ?_
  rintro e v2 ⟨rfl, hb⟩
  have HX2 := Lib.hid (And.intro ((hb.block _ (by have := HZ1.out; omega)).trans HX1.out.1) ((hb.block _ (by have := HZ1.out; omega)).trans HX1.out.2))
  have HB2 := Lib.hid (HB1.out.trans (hb.mono HB1.out.size))
  have HZ2 := Lib.hid (Nat.le_trans HZ1.out hb.size)
  clear hb
  clear q0 q1 q2 q3 q4 q5
  have q0 := row_cell HX2.out.1 0
  have q1 := row_cell HX2.out.1 1
  have q2 := row_cell HX2.out.1 2
  have q3 := row_cell HX2.out.1 3
  have q4 := row_cell HX2.out.1 4
  have q5 := row_cell HX2.out.1 5
  simp at q0 q1 q2 q3 q4 q5
  by_cases hq : q = true
  · subst hq
    go_wp2
    go_ret
    exact ⟨rfl, HB2.out⟩
  have hq : q = false := by simpa using hq
  subst hq
  have HRT' := Lib.hid (HRT.out rfl)
  have HLM' := Lib.hid (HLM.out rfl)
  clear HRT HLM
  by_cases hin : inp < li
  · go_wp2
    go_ret
    exact ⟨rfl, HB2.out⟩
  go_wp2_with fail
  refine (HRT'.out _ HB2.out).mono ?_
  rintro e v3 ⟨rfl, hb⟩
  have HX3 := Lib.hid (And.intro ((hb.block _ (by have := HZ2.out; omega)).trans HX2.out.1) ((hb.block _ (by have := HZ2.out; omega)).trans HX2.out.2))
  have HB3 := Lib.hid (HB2.out.trans (hb.mono HB2.out.size))
  have HZ3 := Lib.hid (Nat.le_trans HZ2.out hb.size)
  clear hb
  clear q0 q1 q2 q3 q4 q5
  by_cases hck : Im.chk P = 0
  case neg =>
    rw [decide_eq_false hck]
    clear hck
    go_wp2
    go_ret
    exact ⟨rfl, HB3.out⟩
  rw [decide_eq_true hck]
  have HR := Lib.hid (show Mc.R P from hck)
  clear hck
  have x0 := row_cell HX3.out.2 0
  have x1 := row_cell HX3.out.2 1
  have x2 := row_cell HX3.out.2 2
  have x3 := row_cell HX3.out.2 3
  have x4 := row_cell HX3.out.2 4
  have x5 := row_cell HX3.out.2 5
  have x6 := row_cell HX3.out.2 6
  have x7 := row_cell HX3.out.2 7
  have x8 := row_cell HX3.out.2 8
  have x9 := row_cell HX3.out.2 9
  have x10 := row_cell HX3.out.2 10
  simp at x0 x1 x2 x3 x4 x5 x6 x7 x8 x9 x10
  have h1c : (#[.int .i64 pl, .int .u64 z0, .int .u64 z1, .int .u64 z2, .int .u64 z3, .int .u64 z4, .int .u64 z5, .int .u64 z6, .int .u64 z7, .slice MA mn mc, .slice OA on occ] : Array Value).all (·.oneCell') = true := by simp [Value.oneCell']
  have H1C := Lib.hid h1c
  have HR7 := Lib.hid (show (v3.alloc (.cells #[.int .i64 0, .int .u64 0, .int .u64 0, .int .u64 0, .int .u64 0, .int .u64 0, .int .u64 0, .int .u64 0, .int .u64 0, .slice none 0 0, .slice none 0 0] 45)).heap[v3.heap.size]? = some (.cells #[.int .i64 0, .int .u64 0, .int .u64 0, .int .u64 0, .int .u64 0, .int .u64 0, .int .u64 0, .int .u64 0, .int .u64 0, .slice none 0 0, .slice none 0 0] 45 (0, 0)) from heap_newM rfl)
  clear h1c
  go_upto_region 6 with (with_reducible refine store_r (.tmp 7) (.tmp 37) v3.heap.size #[.int .i64 0, .int .u64 0, .int .u64 0, .int .u64 0, .int .u64 0, .int .u64 0, .int .u64 0, .int .u64 0, .int .u64 0, .slice none 0 0, .slice none 0 0] #[.int .i64 pl, .int .u64 z0, .int .u64 z1, .int .u64 z2, .int .u64 z3, .int .u64 z4, .int .u64 z5, .int .u64 z6, .int .u64 z7, .slice MA mn mc, .slice OA on occ] HR7.out rfl rfl rfl rfl rfl rfl H1C.out ?_)
  clear hin x0 x1 x2 x3 x4 x5 x6 x7 x8 x9 x10
  have hB5 : Below w.heap.size w ((v3.alloc (.cells #[.int .i64 0, .int .u64 0, .int .u64 0, .int .u64 0, .int .u64 0, .int .u64 0, .int .u64 0, .int .u64 0, .int .u64 0, .slice none 0 0, .slice none 0 0] 45)).setRow v3.heap.size #[.int .i64 pl, .int .u64 z0, .int .u64 z1, .int .u64 z2, .int .u64 z3, .int .u64 z4, .int .u64 z5, .int .u64 z6, .int .u64 z7, .slice MA mn mc, .slice OA on occ]) := below_setRowM (HB3.out.trans ((Below.box v3 (.cells #[.int .i64 0, .int .u64 0, .int .u64 0, .int .u64 0, .int .u64 0, .int .u64 0, .int .u64 0, .int .u64 0, .int .u64 0, .slice none 0 0, .slice none 0 0] 45)).mono HB3.out.size)) (by have := HZ3.out; omega) _
  have h50 : ((v3.alloc (.cells #[.int .i64 0, .int .u64 0, .int .u64 0, .int .u64 0, .int .u64 0, .int .u64 0, .int .u64 0, .int .u64 0, .int .u64 0, .slice none 0 0, .slice none 0 0] 45)).setRow v3.heap.size #[.int .i64 pl, .int .u64 z0, .int .u64 z1, .int .u64 z2, .int .u64 z3, .int .u64 z4, .int .u64 z5, .int .u64 z6, .int .u64 z7, .slice MA mn mc, .slice OA on occ]).heap[w.heap.size]? = some (.cells #[.int .i64 mem, .int .i64 stk, .int .i64 inp, .slice Ad ld cd, .slice Af lf cf, .slice Ac lc cc] 26 (0, 0)) := by
    rw [setRow_other _ _ _ _ (by have := HZ3.out; omega)]
    exact ((Below.box v3 _).block _ (by have := HZ3.out; omega)).trans HX3.out.1
  have h51 : ((v3.alloc (.cells #[.int .i64 0, .int .u64 0, .int .u64 0, .int .u64 0, .int .u64 0, .int .u64 0, .int .u64 0, .int .u64 0, .int .u64 0, .slice none 0 0, .slice none 0 0] 45)).setRow v3.heap.size #[.int .i64 pl, .int .u64 z0, .int .u64 z1, .int .u64 z2, .int .u64 z3, .int .u64 z4, .int .u64 z5, .int .u64 z6, .int .u64 z7, .slice MA mn mc, .slice OA on occ]).heap[w.heap.size + 1]? = some (.cells #[.int .i64 pl, .int .u64 z0, .int .u64 z1, .int .u64 z2, .int .u64 z3, .int .u64 z4, .int .u64 z5, .int .u64 z6, .int .u64 z7, .slice MA mn mc, .slice OA on occ] 43 (0, 0)) := by
    rw [setRow_other _ _ _ _ (by have := HZ3.out; omega)]
    exact ((Below.box v3 _).block _ (by have := HZ3.out; omega)).trans HX3.out.2
  have h57 : ((v3.alloc (.cells #[.int .i64 0, .int .u64 0, .int .u64 0, .int .u64 0, .int .u64 0, .int .u64 0, .int .u64 0, .int .u64 0, .int .u64 0, .slice none 0 0, .slice none 0 0] 45)).setRow v3.heap.size #[.int .i64 pl, .int .u64 z0, .int .u64 z1, .int .u64 z2, .int .u64 z3, .int .u64 z4, .int .u64 z5, .int .u64 z6, .int .u64 z7, .slice MA mn mc, .slice OA on occ]).heap[v3.heap.size]? = some (.cells #[.int .i64 pl, .int .u64 z0, .int .u64 z1, .int .u64 z2, .int .u64 z3, .int .u64 z4, .int .u64 z5, .int .u64 z6, .int .u64 z7, .slice MA mn mc, .slice OA on occ] 45 (0, 0)) := setRow_heap _ _ _ _ _ _ HR7.out
  obtain ⟨g7, hg7⟩ : ∃ g, v3.heap.size = g := ⟨_, rfl⟩
  rw [hg7] at hB5 h50 h51 h57 ⊢
  generalize (v3.alloc (.cells #[.int .i64 0, .int .u64 0, .int .u64 0, .int .u64 0, .int .u64 0, .int .u64 0, .int .u64 0, .int .u64 0, .int .u64 0, .slice none 0 0, .slice none 0 0] 45)).setRow g7 #[.int .i64 pl, .int .u64 z0, .int .u64 z1, .int .u64 z2, .int .u64 z3, .int .u64 z4, .int .u64 z5, .int .u64 z6, .int .u64 z7, .slice MA mn mc, .slice OA on occ] = v5 at *
  have hg7' : w.heap.size + 2 ≤ g7 := by have := HZ3.out; omega
  have hl5 : g7 < v5.heap.size := (Array.getElem?_eq_some_iff.1 h57).1
  have HX5 := Lib.hid (And.intro h50 (And.intro h51 h57))
  have HB5 := Lib.hid hB5
  have HZ5 := Lib.hid (And.intro hg7' hl5)
  clear hB5 h50 h51 h57 hg7 hg7' hl5 HR7
  have x9 := row_cell HX5.out.2.1 9
  have x10 := row_cell HX5.out.2.1 10
  simp at x9 x10
  have q0 := row_cell HX5.out.1 0
  have q1 := row_cell HX5.out.1 1
  have q2 := row_cell HX5.out.1 2
  have q3 := row_cell HX5.out.1 3
  have q4 := row_cell HX5.out.1 4
  have q5 := row_cell HX5.out.1 5
  simp at q0 q1 q2 q3 q4 q5
  have y0 := row_cell HX5.out.2.2 0
  have y1 := row_cell HX5.out.2.2 1
  have y2 := row_cell HX5.out.2.2 2
  have y3 := row_cell HX5.out.2.2 3
  have y4 := row_cell HX5.out.2.2 4
  have y5 := row_cell HX5.out.2.2 5
  have y6 := row_cell HX5.out.2.2 6
  have y7 := row_cell HX5.out.2.2 7
  have y8 := row_cell HX5.out.2.2 8
  have y9 := row_cell HX5.out.2.2 9
  have y10 := row_cell HX5.out.2.2 10
  simp at y0 y1 y2 y3 y4 y5 y6 y7 y8 y9 y10
  by_cases hmn : (100 : Int) < mn
  · go_wp2
    go_ret
    exact ⟨rfl, HB5.out⟩
  by_cases hon : (40 : Int) < on
  · go_wp2
    go_ret
    exact ⟨rfl, HB5.out⟩
  go_wp2_with fail
  refine (HRR.out HR.out (by omega) (by omega) _ HB5.out).mono ?_
  rintro e v6 ⟨b, rfl, hbQ, hb⟩
  have HX6 := Lib.hid (And.intro ((hb.block _ (by have := HZ5.out; omega)).trans HX5.out.1) (And.intro ((hb.block _ (by have := HZ5.out; omega)).trans HX5.out.2.1) ((hb.block _ HZ5.out.2).trans HX5.out.2.2)))
  have HB6 := Lib.hid (HB5.out.trans (hb.mono HB5.out.size))
  have HZ6 := Lib.hid (And.intro HZ5.out.1 (Nat.lt_of_lt_of_le HZ5.out.2 hb.size))
  have HBQ := Lib.hid hbQ
  clear hb hbQ x9 x10 q0 q1 q2 q3 q4 q5 y0 y1 y2 y3 y4 y5 y6 y7 y8 y9 y10
  by_cases hbt : b = true
  case neg =>
    have hbt : b = false := by simpa using hbt
    subst hbt
    go_wp2
    go_ret
    exact ⟨rfl, HB6.out⟩
  subst hbt
  have hok : Mc.Ok P ⟨pl, [z0, z1, z2, z3, z4, z5, z6, z7], mm, op⟩ := by
    have hQ := HBQ.out rfl
    have h1 := HM.out.hlen
    have h2 := HP.out.hlen
    have h3 := HE.out.1
    have h4 := HE.out.2
    exact ⟨hQ.1.1, hQ.1.2, rfl, HRG.out, HM.out.isB, by show (mm.length : Int) = P.mem; omega, by show (op.length : Int) ≤ P.stk; omega, hQ.2.2.2⟩
  have HOK := Lib.hid hok
  clear hok HBQ hmn hon
  have q0 := row_cell HX6.out.1 0
  have q1 := row_cell HX6.out.1 1
  have q2 := row_cell HX6.out.1 2
  have q3 := row_cell HX6.out.1 3
  have q4 := row_cell HX6.out.1 4
  have q5 := row_cell HX6.out.1 5
  simp at q0 q1 q2 q3 q4 q5
  have x0 := row_cell HX6.out.2.1 0
  have x1 := row_cell HX6.out.2.1 1
  have x2 := row_cell HX6.out.2.1 2
  have x3 := row_cell HX6.out.2.1 3
  have x4 := row_cell HX6.out.2.1 4
  have x5 := row_cell HX6.out.2.1 5
  have x6 := row_cell HX6.out.2.1 6
  have x7 := row_cell HX6.out.2.1 7
  have x8 := row_cell HX6.out.2.1 8
  have x9 := row_cell HX6.out.2.1 9
  have x10 := row_cell HX6.out.2.1 10
  simp at x0 x1 x2 x3 x4 x5 x6 x7 x8 x9 x10
  have hcall := HSTP.out HR.out _ HOK.out _ MA mn mc OA on occ HB6.out (HM.out.below HB6.out) (HP.out.below HB6.out)
  have hrc : ∀ W, Below w.heap.size w W → _ := fun W hW => HRSP.out HR.out HLM'.out _ HOK.out W MA mn mc OA on occ hW (HM.out.below hW) (HP.out.below hW)
  generalize Mc.step P xs ⟨pl, [z0, z1, z2, z3, z4, z5, z6, z7], mm, op⟩ = r at hcall hrc
  obtain ⟨⟨tp, tq, tm, to⟩, en⟩ := r
  simp only [stC] at hcall hrc
  generalize html : tm.length = tml at *
  generalize htol : to.length = tol at *
  obtain ⟨y0, hy0⟩ : ∃ z, tq.getD 0 0 = z := ⟨_, rfl⟩
  obtain ⟨y1, hy1⟩ : ∃ z, tq.getD 1 0 = z := ⟨_, rfl⟩
  obtain ⟨y2, hy2⟩ : ∃ z, tq.getD 2 0 = z := ⟨_, rfl⟩
  obtain ⟨y3, hy3⟩ : ∃ z, tq.getD 3 0 = z := ⟨_, rfl⟩
  obtain ⟨y4, hy4⟩ : ∃ z, tq.getD 4 0 = z := ⟨_, rfl⟩
  obtain ⟨y5, hy5⟩ : ∃ z, tq.getD 5 0 = z := ⟨_, rfl⟩
  obtain ⟨y6, hy6⟩ : ∃ z, tq.getD 6 0 = z := ⟨_, rfl⟩
  obtain ⟨y7, hy7⟩ : ∃ z, tq.getD 7 0 = z := ⟨_, rfl⟩
  simp only [hy0, hy1, hy2, hy3, hy4, hy5, hy6, hy7] at hcall hrc
  have HRC := Lib.hid hrc
  have HCALL := Lib.hid hcall
  clear hrc hcall html htol hy0 hy1 hy2 hy3 hy4 hy5 hy6 hy7
  go_wp2_with fail
  refine HCALL.out.mono ?_
  rintro e v7 ⟨mA', mcap', oA', ocap', rfl, ⟨hmo, hib⟩, hoo, hb⟩
  have hX7 := And.intro ((hb.block _ (by have := HZ6.out; omega)).trans HX6.out.1) ((hb.block _ HZ6.out.2).trans HX6.out.2.2)
  have hB7 := HB6.out.trans (hb.mono HB6.out.size)
  have hg7 : g7 < v7.heap.size := Nat.lt_of_lt_of_le HZ6.out.2 hb.size
  have h1c : (#[.int .i64 tp, .int .u64 y0, .int .u64 y1, .int .u64 y2, .int .u64 y3, .int .u64 y4, .int .u64 y5, .int .u64 y6, .int .u64 y7, .slice mA' tml mcap', .slice oA' tol ocap'] : Array Value).all (·.oneCell') = true := by simp [Value.oneCell']
  have H1C8 := Lib.hid h1c
  have HR8 := Lib.hid (show (v7.alloc (.cells #[.int .i64 0, .int .u64 0, .int .u64 0, .int .u64 0, .int .u64 0, .int .u64 0, .int .u64 0, .int .u64 0, .int .u64 0, .slice none 0 0, .slice none 0 0] 43)).heap[v7.heap.size]? = some (.cells #[.int .i64 0, .int .u64 0, .int .u64 0, .int .u64 0, .int .u64 0, .int .u64 0, .int .u64 0, .int .u64 0, .int .u64 0, .slice none 0 0, .slice none 0 0] 43 (0, 0)) from heap_newM rfl)
  have hbm := BySl.of_own hmo hib
  have hio := InSl.of_own hoo
  have HX7 := Lib.hid hX7
  have HB7 := Lib.hid hB7
  have HZ7 := Lib.hid (And.intro HZ6.out.1 hg7)
  have HSA := Lib.hid (And.intro hbm hio)
  clear hX7 hB7 hg7 hmo hib hoo hb hbm hio h1c q0 q1 q2 q3 q4 q5 x0 x1 x2 x3 x4 x5 x6 x7 x8 x9 x10
  go_upto_region 9 with (with_reducible refine store_st (.tmp 8) (.tmp 59) v7.heap.size #[.int .i64 0, .int .u64 0, .int .u64 0, .int .u64 0, .int .u64 0, .int .u64 0, .int .u64 0, .int .u64 0, .int .u64 0, .slice none 0 0, .slice none 0 0] #[.int .i64 tp, .int .u64 y0, .int .u64 y1, .int .u64 y2, .int .u64 y3, .int .u64 y4, .int .u64 y5, .int .u64 y6, .int .u64 y7, .slice mA' tml mcap', .slice oA' tol ocap'] HR8.out rfl rfl rfl rfl rfl rfl H1C8.out ?_)
  have hb8 : Below v7.heap.size v7 ((v7.alloc (.cells #[.int .i64 0, .int .u64 0, .int .u64 0, .int .u64 0, .int .u64 0, .int .u64 0, .int .u64 0, .int .u64 0, .int .u64 0, .slice none 0 0, .slice none 0 0] 43)).setRow v7.heap.size #[.int .i64 tp, .int .u64 y0, .int .u64 y1, .int .u64 y2, .int .u64 y3, .int .u64 y4, .int .u64 y5, .int .u64 y6, .int .u64 y7, .slice mA' tml mcap', .slice oA' tol ocap']) := below_setRowM (Below.box v7 _) (Nat.le_refl _) _
  have h88 : ((v7.alloc (.cells #[.int .i64 0, .int .u64 0, .int .u64 0, .int .u64 0, .int .u64 0, .int .u64 0, .int .u64 0, .int .u64 0, .int .u64 0, .slice none 0 0, .slice none 0 0] 43)).setRow v7.heap.size #[.int .i64 tp, .int .u64 y0, .int .u64 y1, .int .u64 y2, .int .u64 y3, .int .u64 y4, .int .u64 y5, .int .u64 y6, .int .u64 y7, .slice mA' tml mcap', .slice oA' tol ocap']).heap[v7.heap.size]? = some (.cells #[.int .i64 tp, .int .u64 y0, .int .u64 y1, .int .u64 y2, .int .u64 y3, .int .u64 y4, .int .u64 y5, .int .u64 y6, .int .u64 y7, .slice mA' tml mcap', .slice oA' tol ocap'] 43 (0, 0)) := setRow_heap _ _ _ _ _ _ HR8.out
  obtain ⟨g8, hg8⟩ : ∃ g, v7.heap.size = g := ⟨_, rfl⟩
  have hg8l : g7 < g8 := hg8 ▸ HZ7.out.2
  rw [hg8] at hb8 h88 ⊢
  generalize (v7.alloc (.cells #[.int .i64 0, .int .u64 0, .int .u64 0, .int .u64 0, .int .u64 0, .int .u64 0, .int .u64 0, .int .u64 0, .int .u64 0, .slice none 0 0, .slice none 0 0] 43)).setRow g8 #[.int .i64 tp, .int .u64 y0, .int .u64 y1, .int .u64 y2, .int .u64 y3, .int .u64 y4, .int .u64 y5, .int .u64 y6, .int .u64 y7, .slice mA' tml mcap', .slice oA' tol ocap'] = v8 at *
  have hl8 : g8 < v8.heap.size := (Array.getElem?_eq_some_iff.1 h88).1
  have hb8' : Below v7.heap.size v7 v8 := by rw [hg8]; exact hb8
  have HX8 := Lib.hid (And.intro ((hb8'.block _ (by have := HZ7.out; omega)).trans HX7.out.1) (And.intro ((hb8'.block _ HZ7.out.2).trans HX7.out.2) h88))
  have HB8 := Lib.hid (HB7.out.trans (hb8'.mono HB7.out.size))
  have HZ8 := Lib.hid (And.intro HZ7.out.1 (And.intro hg8l hl8))
  have HSA8 := Lib.hid (And.intro (HSA.out.1.below hb8') (HSA.out.2.below hb8'))
  clear hb8 hb8' h88 hg8 hg8l hl8 HR8
  have q0 := row_cell HX8.out.1 0
  have q1 := row_cell HX8.out.1 1
  have q2 := row_cell HX8.out.1 2
  have q3 := row_cell HX8.out.1 3
  have q4 := row_cell HX8.out.1 4
  have q5 := row_cell HX8.out.1 5
  simp at q0 q1 q2 q3 q4 q5
  have x0 := row_cell HX8.out.2.1 0
  have x1 := row_cell HX8.out.2.1 1
  have x2 := row_cell HX8.out.2.1 2
  have x3 := row_cell HX8.out.2.1 3
  have x4 := row_cell HX8.out.2.1 4
  have x5 := row_cell HX8.out.2.1 5
  have x6 := row_cell HX8.out.2.1 6
  have x7 := row_cell HX8.out.2.1 7
  have x8 := row_cell HX8.out.2.1 8
  have x9 := row_cell HX8.out.2.1 9
  have x10 := row_cell HX8.out.2.1 10
  simp at x0 x1 x2 x3 x4 x5 x6 x7 x8 x9 x10
  go_wp2_with fail
  refine (HRC.out _ HB8.out).mono ?_
  rintro e v9 ⟨mB', mcbp', oB', ocbp', rfl, hbm, hio, hb⟩
  have HX9 := Lib.hid (And.intro ((hb.block _ (by have := HZ8.out; omega)).trans HX8.out.1) ((hb.block _ HZ8.out.2.2).trans HX8.out.2.2))
  have HB9 := Lib.hid (HB8.out.trans (hb.mono HB8.out.size))
  have HZ9 := Lib.hid (And.intro HZ8.out.1 (And.intro HZ8.out.2.1 (Nat.lt_of_lt_of_le HZ8.out.2.2 hb.size)))
  have HSA9 := Lib.hid (And.intro (HSA8.out.1.below hb) (HSA8.out.2.below hb))
  have HSB9 := Lib.hid (And.intro hbm hio)
  have h1c : (#[.int .i64 tp, .int .u64 y0, .int .u64 y1, .int .u64 y2, .int .u64 y3, .int .u64 y4, .int .u64 y5, .int .u64 y6, .int .u64 y7, .slice mB' tml mcbp', .slice oB' tol ocbp'] : Array Value).all (·.oneCell') = true := by simp [Value.oneCell']
  have H1C9 := Lib.hid h1c
  have HR9 := Lib.hid (show (v9.alloc (.cells #[.int .i64 0, .int .u64 0, .int .u64 0, .int .u64 0, .int .u64 0, .int .u64 0, .int .u64 0, .int .u64 0, .int .u64 0, .slice none 0 0, .slice none 0 0] 45)).heap[v9.heap.size]? = some (.cells #[.int .i64 0, .int .u64 0, .int .u64 0, .int .u64 0, .int .u64 0, .int .u64 0, .int .u64 0, .int .u64 0, .int .u64 0, .slice none 0 0, .slice none 0 0] 45 (0, 0)) from heap_newM rfl)
  clear hb hbm hio h1c q0 q1 q2 q3 q4 q5 x0 x1 x2 x3 x4 x5 x6 x7 x8 x9 x10
  go_upto_region 10 with (with_reducible refine store_r (.tmp 10) (.tmp 66) v9.heap.size #[.int .i64 0, .int .u64 0, .int .u64 0, .int .u64 0, .int .u64 0, .int .u64 0, .int .u64 0, .int .u64 0, .int .u64 0, .slice none 0 0, .slice none 0 0] #[.int .i64 tp, .int .u64 y0, .int .u64 y1, .int .u64 y2, .int .u64 y3, .int .u64 y4, .int .u64 y5, .int .u64 y6, .int .u64 y7, .slice mB' tml mcbp', .slice oB' tol ocbp'] HR9.out rfl rfl rfl rfl rfl rfl H1C9.out ?_)
  have hb8 : Below v9.heap.size v9 ((v9.alloc (.cells #[.int .i64 0, .int .u64 0, .int .u64 0, .int .u64 0, .int .u64 0, .int .u64 0, .int .u64 0, .int .u64 0, .int .u64 0, .slice none 0 0, .slice none 0 0] 45)).setRow v9.heap.size #[.int .i64 tp, .int .u64 y0, .int .u64 y1, .int .u64 y2, .int .u64 y3, .int .u64 y4, .int .u64 y5, .int .u64 y6, .int .u64 y7, .slice mB' tml mcbp', .slice oB' tol ocbp']) := below_setRowM (Below.box v9 _) (Nat.le_refl _) _
  have h88 : ((v9.alloc (.cells #[.int .i64 0, .int .u64 0, .int .u64 0, .int .u64 0, .int .u64 0, .int .u64 0, .int .u64 0, .int .u64 0, .int .u64 0, .slice none 0 0, .slice none 0 0] 45)).setRow v9.heap.size #[.int .i64 tp, .int .u64 y0, .int .u64 y1, .int .u64 y2, .int .u64 y3, .int .u64 y4, .int .u64 y5, .int .u64 y6, .int .u64 y7, .slice mB' tml mcbp', .slice oB' tol ocbp']).heap[v9.heap.size]? = some (.cells #[.int .i64 tp, .int .u64 y0, .int .u64 y1, .int .u64 y2, .int .u64 y3, .int .u64 y4, .int .u64 y5, .int .u64 y6, .int .u64 y7, .slice mB' tml mcbp', .slice oB' tol ocbp'] 45 (0, 0)) := setRow_heap _ _ _ _ _ _ HR9.out
  obtain ⟨g10, hg10⟩ : ∃ g, v9.heap.size = g := ⟨_, rfl⟩
  have hg10l : g8 < g10 := hg10 ▸ HZ9.out.2.2
  rw [hg10] at hb8 h88 ⊢
  generalize (v9.alloc (.cells #[.int .i64 0, .int .u64 0, .int .u64 0, .int .u64 0, .int .u64 0, .int .u64 0, .int .u64 0, .int .u64 0, .int .u64 0, .slice none 0 0, .slice none 0 0] 45)).setRow g10 #[.int .i64 tp, .int .u64 y0, .int .u64 y1, .int .u64 y2, .int .u64 y3, .int .u64 y4, .int .u64 y5, .int .u64 y6, .int .u64 y7, .slice mB' tml mcbp', .slice oB' tol ocbp'] = v10 at *
  have hl8 : g10 < v10.heap.size := (Array.getElem?_eq_some_iff.1 h88).1
  have hb8' : Below v9.heap.size v9 v10 := by rw [hg10]; exact hb8
  have HX10 := Lib.hid (And.intro ((hb8'.block _ (by have := HZ9.out; omega)).trans HX9.out.1) (And.intro ((hb8'.block _ HZ9.out.2.2).trans HX9.out.2) h88))
  have HB10 := Lib.hid (HB9.out.trans (hb8'.mono HB9.out.size))
  have HZ10 := Lib.hid (show w.heap.size < v10.heap.size ∧ g8 < v10.heap.size ∧ g10 < v10.heap.size from ⟨by have := HZ9.out; omega, by omega, hl8⟩)
  have HSA10 := Lib.hid (And.intro (HSA9.out.1.below hb8') (HSA9.out.2.below hb8'))
  have HSB10 := Lib.hid (And.intro (HSB9.out.1.below hb8') (HSB9.out.2.below hb8'))
  clear hb8 hb8' h88 hg10 hg10l hl8 HR9 HX9 HX8 HX7 HX6 HX5 HX3 HX2 HX1 HSA HSA8 HSA9 HSB9 HZ9 HZ8 HZ7 HZ6 HZ5 HZ3 HZ2 HZ1
  obtain ⟨n, hn, hml0, hrst⟩ := H45.out HR.out
  subst hn
  have hstt := H43.out HR.out
  have hst0 : Mc.start P = ⟨0, [0, 0, 0, 0, 0, 0, 0, 0], Mc.mem0 P, []⟩ := rfl
  rw [hst0] at hstt
  simp only [stC, List.getD_cons_zero, List.getD_cons_succ, hml0] at hstt
  have hib0 : Cd.isB (Mc.mem0 P) := by
    have := (Mc.mem0_ok HR.out (HHD.out)).mb
    rw [hst0] at this
    exact this
  generalize Mc.mem0 P = M0 at *
  have H43' := Lib.hid hstt
  have H45' := Lib.hid hrst
  have HIB0 := Lib.hid hib0
  clear hstt hst0 hrst hib0 hml0 H43 H45 HRC HRSP HSTP
  refine held_tail (S := fun W => Below v10.heap.size v10 W) 15 (by kernel_rfl) (by simp) (Below.refl _ _).drew (fun hHeld => ?_)
  refine headS_take (i := 0) (v := .agg #[.int .i64 tp, .int .u64 y0, .int .u64 y1, .int .u64 y2, .int .u64 y3, .int .u64 y4, .int .u64 y5, .int .u64 y6, .int .u64 y7, .slice mA' tml mcap', .slice oA' tol ocap']) rfl (by kernel_rfl) (fun _ _ _ h => h) (Or.inl ⟨by rfl, fun w9 hSw => ?_⟩) hHeld ?_
  · (try dsimp only at hSw)
    have x0 := cells_below hSw (row_cell HX10.out.2.1 0) HZ10.out.2.1
    have x1 := cells_below hSw (row_cell HX10.out.2.1 1) HZ10.out.2.1
    have x2 := cells_below hSw (row_cell HX10.out.2.1 2) HZ10.out.2.1
    have x3 := cells_below hSw (row_cell HX10.out.2.1 3) HZ10.out.2.1
    have x4 := cells_below hSw (row_cell HX10.out.2.1 4) HZ10.out.2.1
    have x5 := cells_below hSw (row_cell HX10.out.2.1 5) HZ10.out.2.1
    have x6 := cells_below hSw (row_cell HX10.out.2.1 6) HZ10.out.2.1
    have x7 := cells_below hSw (row_cell HX10.out.2.1 7) HZ10.out.2.1
    have x8 := cells_below hSw (row_cell HX10.out.2.1 8) HZ10.out.2.1
    have x9 := cells_below hSw (row_cell HX10.out.2.1 9) HZ10.out.2.1
    have x10 := cells_below hSw (row_cell HX10.out.2.1 10) HZ10.out.2.1
    simp at x0 x1 x2 x3 x4 x5 x6 x7 x8 x9 x10
    go_simp
  try simp only [List.getElem_toArray, List.getElem_cons_succ, List.getElem_cons_zero, Act.put, List.setIfInBounds_toArray, List.set_cons_zero, List.set_cons_succ]
  refine headS_take (i := 1) (v := .agg #[.int .i64 tp, .int .u64 y0, .int .u64 y1, .int .u64 y2, .int .u64 y3, .int .u64 y4, .int .u64 y5, .int .u64 y6, .int .u64 y7, .slice mB' tml mcbp', .slice oB' tol ocbp']) rfl (by kernel_rfl) (fun _ _ _ h => h) (Or.inl ⟨by rfl, fun w9 hSw => ?_⟩) hHeld ?_
  · (try dsimp only at hSw)
    have x0 := cells_below hSw (row_cell HX10.out.2.2 0) HZ10.out.2.2
    have x1 := cells_below hSw (row_cell HX10.out.2.2 1) HZ10.out.2.2
    have x2 := cells_below hSw (row_cell HX10.out.2.2 2) HZ10.out.2.2
    have x3 := cells_below hSw (row_cell HX10.out.2.2 3) HZ10.out.2.2
    have x4 := cells_below hSw (row_cell HX10.out.2.2 4) HZ10.out.2.2
    have x5 := cells_below hSw (row_cell HX10.out.2.2 5) HZ10.out.2.2
    have x6 := cells_below hSw (row_cell HX10.out.2.2 6) HZ10.out.2.2
    have x7 := cells_below hSw (row_cell HX10.out.2.2 7) HZ10.out.2.2
    have x8 := cells_below hSw (row_cell HX10.out.2.2 8) HZ10.out.2.2
    have x9 := cells_below hSw (row_cell HX10.out.2.2 9) HZ10.out.2.2
    have x10 := cells_below hSw (row_cell HX10.out.2.2 10) HZ10.out.2.2
    simp at x0 x1 x2 x3 x4 x5 x6 x7 x8 x9 x10
    go_simp
  try simp only [List.getElem_toArray, List.getElem_cons_succ, List.getElem_cons_zero, Act.put, List.setIfInBounds_toArray, List.set_cons_zero, List.set_cons_succ]
  refine headS_ready (rs := [2]) (by kernel_rfl) (by simp) (by rfl) ?_
  refine AllS.cons rfl (fun K hK => ?_) AllS.nil
  go_simp
  go_at_call 21
  refine (same5_any tp y0 y1 y2 y3 y4 y5 y6 y7 tm to mA' tml mcap' oA' tol ocap' mB' mcbp' oB' ocbp' _ (HSA10.out.1.below (Below.refl _ _).drew) (HSB10.out.1.below (Below.refl _ _).drew) (HSA10.out.2.below (Below.refl _ _).drew) (HSB10.out.2.below (Below.refl _ _).drew)).mono ?_
  rintro e u2 ⟨rfl, hbv⟩
  have hBv2 : Below v10.heap.size v10 u2 := (Below.refl _ _).drew.trans hbv
  clear hbv
  refine hK.out _ _ hBv2 (fun hHeld => ?_)
  clear hK K
  try simp only [List.getElem_toArray, List.getElem_cons_succ, List.getElem_cons_zero, Act.put, List.setIfInBounds_toArray, List.set_cons_zero, List.set_cons_succ]
  refine headS_take (i := 3) (v := .bool true) rfl (by kernel_rfl) (fun _ _ _ h => h) (Or.inl ⟨by rfl, fun w9 hSw => ?_⟩) hHeld ?_
  · (try dsimp only at hSw)
    go_simp
  try simp only [List.getElem_toArray, List.getElem_cons_succ, List.getElem_cons_zero, Act.put, List.setIfInBounds_toArray, List.set_cons_zero, List.set_cons_succ]
  refine headS_take (i := 4) (v := .int .i64 en) rfl (by kernel_rfl) (fun _ _ _ h => h) (Or.inl ⟨by rfl, fun w9 hSw => ?_⟩) hHeld ?_
  · (try dsimp only at hSw)
    go_simp
  try simp only [List.getElem_toArray, List.getElem_cons_succ, List.getElem_cons_zero, Act.put, List.setIfInBounds_toArray, List.set_cons_zero, List.set_cons_succ]
  refine headS_take (i := 5) (v := .int .i64 en) rfl (by kernel_rfl) (fun _ _ _ h => h) (Or.inl ⟨by rfl, fun w9 hSw => ?_⟩) hHeld ?_
  · (try dsimp only at hSw)
    go_simp
  try simp only [List.getElem_toArray, List.getElem_cons_succ, List.getElem_cons_zero, Act.put, List.setIfInBounds_toArray, List.set_cons_zero, List.set_cons_succ]
  refine headS_take (i := 6) (v := .bool true) rfl (by kernel_rfl) (fun _ _ _ h => h) (Or.inl ⟨by rfl, fun w9 hSw => ?_⟩) hHeld ?_
  · (try dsimp only at hSw)
    go_simp
  try simp only [List.getElem_toArray, List.getElem_cons_succ, List.getElem_cons_zero, Act.put, List.setIfInBounds_toArray, List.set_cons_zero, List.set_cons_succ]
  refine headS_take (i := 7) (v := .bool true) rfl (by kernel_rfl) (fun _ _ _ h => h) (Or.inl ⟨by rfl, fun w9 hSw => ?_⟩) hHeld ?_
  · (try dsimp only at hSw)
    go_simp
  try simp only [List.getElem_toArray, List.getElem_cons_succ, List.getElem_cons_zero, Act.put, List.setIfInBounds_toArray, List.set_cons_zero, List.set_cons_succ]
  refine headS_take (i := 8) (v := .bool true) rfl (by kernel_rfl) (fun _ _ _ h => h) (Or.inl ⟨by rfl, fun w9 hSw => ?_⟩) hHeld ?_
  · (try dsimp only at hSw)
    go_simp
  try simp only [List.getElem_toArray, List.getElem_cons_succ, List.getElem_cons_zero, Act.put, List.setIfInBounds_toArray, List.set_cons_zero, List.set_cons_succ]
  refine headS_take (i := 9) (v := .agg #[.int .i64 (n : Int), .int .i64 stk, .int .i64 inp, .slice Ad ld cd, .slice Af lf cf, .slice Ac lc cc]) rfl (by kernel_rfl) (fun _ _ _ h => h) (Or.inl ⟨by rfl, fun w9 hSw => ?_⟩) hHeld ?_
  · (try dsimp only at hSw)
    have q0 := cells_below hSw (row_cell HX10.out.1 0) HZ10.out.1
    have q1 := cells_below hSw (row_cell HX10.out.1 1) HZ10.out.1
    have q2 := cells_below hSw (row_cell HX10.out.1 2) HZ10.out.1
    have q3 := cells_below hSw (row_cell HX10.out.1 3) HZ10.out.1
    have q4 := cells_below hSw (row_cell HX10.out.1 4) HZ10.out.1
    have q5 := cells_below hSw (row_cell HX10.out.1 5) HZ10.out.1
    simp at q0 q1 q2 q3 q4 q5
    go_simp
  try simp only [List.getElem_toArray, List.getElem_cons_succ, List.getElem_cons_zero, Act.put, List.setIfInBounds_toArray, List.set_cons_zero, List.set_cons_succ]
  refine headS_take (i := 11) (v := .agg #[.int .i64 (n : Int), .int .i64 stk, .int .i64 inp, .slice Ad ld cd, .slice Af lf cf, .slice Ac lc cc]) rfl (by kernel_rfl) (fun _ _ _ h => h) (Or.inl ⟨by rfl, fun w9 hSw => ?_⟩) hHeld ?_
  · (try dsimp only at hSw)
    have q0 := cells_below hSw (row_cell HX10.out.1 0) HZ10.out.1
    have q1 := cells_below hSw (row_cell HX10.out.1 1) HZ10.out.1
    have q2 := cells_below hSw (row_cell HX10.out.1 2) HZ10.out.1
    have q3 := cells_below hSw (row_cell HX10.out.1 3) HZ10.out.1
    have q4 := cells_below hSw (row_cell HX10.out.1 4) HZ10.out.1
    have q5 := cells_below hSw (row_cell HX10.out.1 5) HZ10.out.1
    simp at q0 q1 q2 q3 q4 q5
    go_simp
  try simp only [List.getElem_toArray, List.getElem_cons_succ, List.getElem_cons_zero, Act.put, List.setIfInBounds_toArray, List.set_cons_zero, List.set_cons_succ]
  refine headS_ready (rs := [10]) (by kernel_rfl) (by simp) (by rfl) ?_
  refine AllS.cons rfl (fun K hK => ?_) AllS.nil
  go_simp
  go_at_call 22
  refine (H43'.out _ (HB10.out.trans (hBv2.mono HB10.out.size))).mono ?_
  rintro e u10 ⟨mS, cS, rfl, hmS, hbv⟩
  have hBv10 : Below v10.heap.size v10 u10 := hBv2.trans (hbv.mono hBv2.size)
  have HMS := Lib.hid (BySl.of_own hmS HIB0.out)
  clear hbv hmS
  refine hK.out _ _ hBv10 (fun hHeld => ?_)
  clear hK K
  try simp only [List.getElem_toArray, List.getElem_cons_succ, List.getElem_cons_zero, Act.put, List.setIfInBounds_toArray, List.set_cons_zero, List.set_cons_succ]
  refine headS_ready (rs := [12]) (by kernel_rfl) (by simp) (by rfl) ?_
  refine AllS.cons rfl (fun K hK => ?_) AllS.nil
  go_simp
  go_at_call 23
  refine (H45'.out _ (HB10.out.trans (hBv10.mono HB10.out.size))).mono ?_
  rintro e u12 ⟨mT, cT, rfl, hmT, hbv⟩
  have hBv12 : Below v10.heap.size v10 u12 := hBv10.trans (hbv.mono hBv10.size)
  have HMT := Lib.hid (BySl.of_own hmT HIB0.out)
  have HMS2 := Lib.hid (HMS.out.below hbv)
  clear hbv hmT
  refine hK.out _ _ hBv12 (fun hHeld => ?_)
  clear hK K
  try simp only [List.getElem_toArray, List.getElem_cons_succ, List.getElem_cons_zero, Act.put, List.setIfInBounds_toArray, List.set_cons_zero, List.set_cons_succ]
  refine headS_ready (rs := [13]) (by kernel_rfl) (by simp) (by rfl) ?_
  refine AllS.cons rfl (fun K hK => ?_) AllS.nil
  go_simp
  go_at_call 21
  refine (same5_any 0 0 0 0 0 0 0 0 0 M0 [] mS n cS none 0 0 mT cT none 0 _ HMS2.out HMT.out InSl.nil InSl.nil).mono ?_
  rintro e u13 ⟨rfl, hbv⟩
  have hBv13 : Below v10.heap.size v10 u13 := hBv12.trans (hbv.mono hBv12.size)
  clear hbv
  refine hK.out _ _ hBv13 (fun hHeld => ?_)
  clear hK K
  try simp only [List.getElem_toArray, List.getElem_cons_succ, List.getElem_cons_zero, Act.put, List.setIfInBounds_toArray, List.set_cons_zero, List.set_cons_succ]
  refine headS_take (i := 14) (v := .bool true) rfl (by kernel_rfl) (fun _ _ _ h => h) (Or.inl ⟨by rfl, fun w9 hSw => ?_⟩) hHeld ?_
  · (try dsimp only at hSw)
    go_simp
  try simp only [List.getElem_toArray, List.getElem_cons_succ, List.getElem_cons_zero, Act.put, List.setIfInBounds_toArray, List.set_cons_zero, List.set_cons_succ]
  refine ⟨by kernel_rfl, ?_⟩
  simp only [List.drop_succ_cons, List.drop_zero]
  have HBE := Lib.hid (HB10.out.trans (hBv13.mono HB10.out.size))
  clear hBv2 hBv10 hBv12 hBv13 hHeld
  go_wp2
  go_ret
  exact ⟨rfl, HBE.out⟩
end Go.Proofs.YtfhnigfghfmolaaDoor
