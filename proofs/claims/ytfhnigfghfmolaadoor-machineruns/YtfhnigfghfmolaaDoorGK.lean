/-
  The reference's machine: there, with, its Right of a state; same.
  The reference's Right of a state.
  The reference's with: a register anew, one place on.
  The reference's flow: jumps, branches, calls that are too many, backs with nothing open.
-/
import Derived.Test.YtfhnigfghfmolaaDoorGI
import Derived.Test.YtfhnigfghfmolaaDoorGJ
set_option linter.unusedSimpArgs false
set_option linter.unusedVariables false
namespace Go.Proofs.YtfhnigfghfmolaaDoor
set_option maxRecDepth 100000
open Go.RowKit

set_option maxHeartbeats 400000 in
theorem rthere_any (size at' n : Int) (w : World) (h0 : 0 ≤ size) (h1 : size ≤ 1000000) (n0 : 0 ≤ n) (n1 : n ≤ 1000000) :
    Calls Tryd.prog 50 #[.int .i64 size, .int .u64 at', .int .i64 n] w fun e w' => e = .returned (.bool (decide (at' + n ≤ size) && decide (n ≤ size))) ∧ w = w' := by
  have e1 : n ≤ size → IntKind.i64.wrap (size - n) = size - n := fun h => by rw [IntKind.wrap_i64]; omega
  have e2 : n ≤ size → IntKind.u64.wrap (size - n) = size - n := fun h => by rw [IntKind.wrap_u64]; omega
  by_cases hc : n ≤ size
  · have e1 := e1 hc
    have e2 := e2 hc
    have hd : decide (at' + n ≤ size) = decide (at' ≤ size - n) := decide_eq_decide.2 (by omega)
    rw [decide_eq_true hc, hd, Bool.and_true]
    clear hd h0 h1 n0 n1
    go_enter Tryd.func50, Tryd.ntmps50
    go_wp2
    go_ret
    exact ⟨by first | rfl | simp, rfl⟩
  · rw [decide_eq_false hc, Bool.and_false]
    clear e1 e2 h0 h1 n0 n1
    go_enter Tryd.func50, Tryd.ntmps50
    go_wp2
    go_ret
    exact ⟨by first | rfl | simp, rfl⟩

theorem run_eql_regs_same (r0 r1 r2 r3 r4 r5 r6 r7 : Int) (W : World) :
    (binOp .eql 30 (.agg #[.int .u64 r0, .int .u64 r1, .int .u64 r2, .int .u64 r3, .int .u64 r4, .int .u64 r5, .int .u64 r6, .int .u64 r7]) (.agg #[.int .u64 r0, .int .u64 r1, .int .u64 r2, .int .u64 r3, .int .u64 r4, .int .u64 r5, .int .u64 r6, .int .u64 r7])).run Tryd.prog W = .ok (.bool true) W := by
  rw [run_eql_regs]; simp

set_option maxRecDepth 20000 in
set_option maxHeartbeats 3200000 in
/-- The same state, told twice. -/
theorem same5_any (pl : Int) (z0 z1 z2 z3 z4 z5 z6 z7 : Int) (mm op : List Int) (A : Option Addr) (n c : Nat) (O : Option Addr) (on oc : Nat) (A' : Option Addr) (c' : Nat) (O' : Option Addr) (oc' : Nat) (w : World) (h1 : BySl w A n c mm) (h2 : BySl w A' n c' mm) (k1 : InSl w O on oc op) (k2 : InSl w O' on oc' op) :
    Calls Tryd.prog 21 #[.agg #[.int .i64 pl, .int .u64 z0, .int .u64 z1, .int .u64 z2, .int .u64 z3, .int .u64 z4, .int .u64 z5, .int .u64 z6, .int .u64 z7, .slice A n c, .slice O on oc], .agg #[.int .i64 pl, .int .u64 z0, .int .u64 z1, .int .u64 z2, .int .u64 z3, .int .u64 z4, .int .u64 z5, .int .u64 z6, .int .u64 z7, .slice A' n c', .slice O' on oc']] w fun e w' => e = .returned (.bool true) ∧ Below w.heap.size w w' := by
  have hin : ∀ W, Below w.heap.size w W → Calls Tryd.prog 24 #[.slice O on oc, .slice O' on oc'] W fun e w' => e = .returned (.bool true) ∧ Below W.heap.size W w' := fun W hW => by
    have := ints_any _ _ _ _ _ _ op op W (k1.below hW) (k2.below hW)
    rwa [decide_eq_true (rfl : op = op)] at this
  have hs1 : ∀ W, Below w.heap.size w W → (convert 22 9 (.slice A n c)).run Tryd.prog W = .ok (.string (strOfNums mm)) W := fun W hW => by_str (h1.below hW)
  have hs2 : ∀ W, Below w.heap.size w W → (convert 22 9 (.slice A' n c')).run Tryd.prog W = .ok (.string (strOfNums mm)) W := fun W hW => by_str (h2.below hW)
  have hrr := run_eql_regs_same z0 z1 z2 z3 z4 z5 z6 z7
  generalize strOfNums mm = S at *
  have HIN := Lib.hid hin
  clear hin h1 h2 k1 k2
  have hB : Below w.heap.size w ((w.alloc (.cells #[.int .i64 pl, .int .u64 z0, .int .u64 z1, .int .u64 z2, .int .u64 z3, .int .u64 z4, .int .u64 z5, .int .u64 z6, .int .u64 z7, .slice A n c, .slice O on oc] 43)).alloc (.cells #[.int .i64 pl, .int .u64 z0, .int .u64 z1, .int .u64 z2, .int .u64 z3, .int .u64 z4, .int .u64 z5, .int .u64 z6, .int .u64 z7, .slice A' n c', .slice O' on oc'] 45)) := ((Below.refl _ _).alloc (Nat.le_refl _) _).alloc (by simp) _
  have s1 := hs1 _ hB
  have s2 := hs2 _ hB
  have HB := Lib.hid hB
  clear hs1 hs2 hB
  go_enter Tryd.func21, Tryd.ntmps21
  go_wp2_with fail
  refine (HIN.out _ HB.out).mono ?_
  rintro e v ⟨rfl, hb⟩
  have HBV := Lib.hid (HB.out.trans (hb.mono HB.out.size))
  clear hb
  go_wp2
  go_ret
  exact ⟨rfl, HBV.out⟩
end Go.Proofs.YtfhnigfghfmolaaDoor
namespace Go.Proofs.YtfhnigfghfmolaaDoor
set_option maxRecDepth 100000
open Go.RowKit

def RrP (Q : Prop) (w : World) (e : Ending) (w' : World) : Prop := ∃ b, e = .returned (.bool b) ∧ (b = true → Q) ∧ Below w.heap.size w w'

set_option maxRecDepth 20000 in
set_option maxHeartbeats 6400000 in
theorem rrst_any (H : Hd) (hR : Mc.R H.p) (pl : Int) (z0 z1 z2 z3 z4 z5 z6 z7 : Int) (mm op : List Int) (A : Option Addr) (n c : Nat) (O : Option Addr) (on oc : Nat) (w : World) (HA : HdAt w H) (hO : InSl w O on oc op) (hnc : n ≤ 1000000) (hon : on ≤ 1000000) :
    Calls Tryd.prog 18 #[.agg #[.int .i64 H.mem, .int .i64 H.stk, .int .i64 H.inp, .slice H.Ad H.ld H.cd, .slice H.Af H.lf H.cf, .slice H.Ac H.lc H.cc], .agg #[.int .i64 pl, .int .u64 z0, .int .u64 z1, .int .u64 z2, .int .u64 z3, .int .u64 z4, .int .u64 z5, .int .u64 z6, .int .u64 z7, .slice A n c, .slice O on oc]] w (RrP ((0 ≤ pl ∧ pl < H.p.cs.length) ∧ (n : Int) = H.mem ∧ (on : Int) ≤ H.stk ∧ ∀ q ∈ op, 0 ≤ q ∧ q < H.p.cs.length) w) := by
  have hC := hR.cnt
  have hcl := HA.img.c.hlen
  have hlf1 := HA.img.f.hlen
  have hlcM := Nat.le_trans HA.img.c.hle HA.img.c.hcap
  have hfn : ∀ q W, Below w.heap.size w W → Calls Tryd.prog 33 #[.agg #[.int .i64 H.mem, .int .i64 H.stk, .int .i64 H.inp, .slice H.Ad H.ld H.cd, .slice H.Af H.lf H.cf, .slice H.Ac H.lc H.cc], .int .i64 q] W fun e w' => e = .returned (.int .i64 (Im.fn H.p.fs H.lc q)) ∧ Below W.heap.size W w' := fun q W hW => rfun_any _ _ _ _ _ _ _ _ _ _ _ _ H.p.fs q W (HA.img.f.below hW) (by rw [← hcl]; exact hC.2.2.2.2.2.2) (by have := hC.2.2.2.2.1.1; omega) hlcM
  have hno : ∀ q, ¬ (0 ≤ q ∧ q < (H.lc : Int)) → Im.fn H.p.fs H.lc q = -1 := fun q hq => Im.fn_out (by omega)
  have hyes : ∀ q, (0 ≤ q ∧ q < (H.lc : Int)) → ∃ k : Nat, Im.fn H.p.fs H.lc q = k := fun q hq => by
    unfold Im.fn
    rw [if_pos hq]
    exact ⟨_, rfl⟩
  have hol := hO.hlen
  rw [hcl]
  have HFN := Lib.hid hfn
  have HNO := Lib.hid hno
  have HYES := Lib.hid hyes
  have HO := Lib.hid hO
  have HOL := Lib.hid hol
  clear hfn hno hyes hO hol hC hcl hlf1 HA
  obtain ⟨mem, stk, inp, Ad, ld, cd, Af, lf, cf, Ac, lc, cc, Ai, li, ci, P, xs⟩ := H
  simp only at *
  obtain ⟨Q, hQ⟩ : ∃ Q, Q = ((0 ≤ pl ∧ pl < (lc : Int)) ∧ (n : Int) = mem ∧ (on : Int) ≤ stk ∧ ∀ q ∈ op, 0 ≤ q ∧ q < (lc : Int)) := ⟨_, rfl⟩
  rw [← hQ]
  have HQ := Lib.hid hQ
  clear hQ
  have hB0 : Below w.heap.size w ((w.alloc (.cells #[.int .i64 mem, .int .i64 stk, .int .i64 inp, .slice Ad ld cd, .slice Af lf cf, .slice Ac lc cc] 26)).alloc (.cells #[.int .i64 pl, .int .u64 z0, .int .u64 z1, .int .u64 z2, .int .u64 z3, .int .u64 z4, .int .u64 z5, .int .u64 z6, .int .u64 z7, .slice A n c, .slice O on oc] 45)) := ((Below.refl _ _).alloc (Nat.le_refl _) _).alloc (by simp) _
  have hX0 : ((w.alloc (.cells #[.int .i64 mem, .int .i64 stk, .int .i64 inp, .slice Ad ld cd, .slice Af lf cf, .slice Ac lc cc] 26)).alloc (.cells #[.int .i64 pl, .int .u64 z0, .int .u64 z1, .int .u64 z2, .int .u64 z3, .int .u64 z4, .int .u64 z5, .int .u64 z6, .int .u64 z7, .slice A n c, .slice O on oc] 45)).heap[w.heap.size]? = some (.cells #[.int .i64 mem, .int .i64 stk, .int .i64 inp, .slice Ad ld cd, .slice Af lf cf, .slice Ac lc cc] 26 (0, 0)) := ((Below.box _ _).block _ (by simp)).trans (heap_newM rfl)
  have hX1 : ((w.alloc (.cells #[.int .i64 mem, .int .i64 stk, .int .i64 inp, .slice Ad ld cd, .slice Af lf cf, .slice Ac lc cc] 26)).alloc (.cells #[.int .i64 pl, .int .u64 z0, .int .u64 z1, .int .u64 z2, .int .u64 z3, .int .u64 z4, .int .u64 z5, .int .u64 z6, .int .u64 z7, .slice A n c, .slice O on oc] 45)).heap[w.heap.size + 1]? = some (.cells #[.int .i64 pl, .int .u64 z0, .int .u64 z1, .int .u64 z2, .int .u64 z3, .int .u64 z4, .int .u64 z5, .int .u64 z6, .int .u64 z7, .slice A n c, .slice O on oc] 45 (0, 0)) := heap_newM (by simp)
  have hz0 : ((w.alloc (.cells #[.int .i64 mem, .int .i64 stk, .int .i64 inp, .slice Ad ld cd, .slice Af lf cf, .slice Ac lc cc] 26)).alloc (.cells #[.int .i64 pl, .int .u64 z0, .int .u64 z1, .int .u64 z2, .int .u64 z3, .int .u64 z4, .int .u64 z5, .int .u64 z6, .int .u64 z7, .slice A n c, .slice O on oc] 45)).heap.size = w.heap.size + 2 := by simp
  go_enter Tryd.func18, Tryd.ntmps18
  go_wp2_with fail
  generalize (w.alloc (.cells #[.int .i64 mem, .int .i64 stk, .int .i64 inp, .slice Ad ld cd, .slice Af lf cf, .slice Ac lc cc] 26)).alloc (.cells #[.int .i64 pl, .int .u64 z0, .int .u64 z1, .int .u64 z2, .int .u64 z3, .int .u64 z4, .int .u64 z5, .int .u64 z6, .int .u64 z7, .slice A n c, .slice O on oc] 45) = w1 at *
  refine (HFN.out pl _ hB0).mono ?_
  rintro e v ⟨rfl, hb⟩
  have HX0 := Lib.hid ((hb.block _ (by omega)).trans hX0)
  have HX1 := Lib.hid ((hb.block _ (by omega)).trans hX1)
  have HB := Lib.hid (hB0.trans (hb.mono hB0.size))
  have HZ := Lib.hid (show w.heap.size + 2 ≤ v.heap.size by have := hb.size; omega)
  clear hb hX0 hX1 hB0 hz0
  have q0 := row_cell HX0.out 0
  have q1 := row_cell HX0.out 1
  have q2 := row_cell HX0.out 2
  have q3 := row_cell HX0.out 3
  have q4 := row_cell HX0.out 4
  have q5 := row_cell HX0.out 5
  simp at q0 q1 q2 q3 q4 q5
  have x2 := row_cell HX1.out 9
  have x3 := row_cell HX1.out 10
  simp at x2 x3
  by_cases hpl : 0 ≤ pl ∧ pl < (lc : Int)
  case neg =>
    rw [HNO.out pl hpl]
    clear hpl
    go_wp2
    go_ret
    exact ⟨_, rfl, fun h => Bool.noConfusion h, HB.out⟩
  obtain ⟨f, hf⟩ := HYES.out pl hpl
  rw [hf]
  have HPL := Lib.hid hpl
  clear hf hpl
  have hf0 : ¬ (f : Int) < 0 := by omega
  by_cases hn : (n : Int) = mem
  case neg =>
    have hne : ((n : Int) != mem) = true := by simpa using hn
    clear hn
    go_wp2
    go_ret
    exact ⟨_, rfl, fun h => Bool.noConfusion h, HB.out⟩
  have HN := Lib.hid hn
  have hne : ((n : Int) != mem) = false := by simpa using hn
  clear hn
  by_cases hs : stk < (on : Int)
  case pos =>
    go_wp2
    go_ret
    exact ⟨_, rfl, fun h => Bool.noConfusion h, HB.out⟩
  have HS := Lib.hid (show (on : Int) ≤ stk by omega)
  go_wp2
  clear q0 q1 q2 q3 q4 q5 x2 x3
  go_loopw [5] (fun i wr => ∃ k : Nat, k ≤ on ∧ i = .int .i64 k ∧ Below v.heap.size v wr ∧ ∀ j, j < k → 0 ≤ op.getD j 0 ∧ op.getD j 0 < (lc : Int)) (fun i _ => on - (intOf i).toNat)
  case atStart => exact ⟨0, Nat.zero_le _, rfl, Below.refl _ _, fun j hj => absurd hj (by omega)⟩
  case round =>
    obtain ⟨k, hk, rfl, hbr, hal⟩ := hrel
    have HBR := Lib.hid hbr
    have HAL := Lib.hid hal
    have hwl : w.heap.size < v.heap.size := by have := HZ.out; omega
    have hwl1 : w.heap.size + 1 < v.heap.size := by have := HZ.out; omega
    have q0 := cells_below hbr (row_cell HX0.out 0) (hwl)
    have q1 := cells_below hbr (row_cell HX0.out 1) (hwl)
    have q2 := cells_below hbr (row_cell HX0.out 2) (hwl)
    have q3 := cells_below hbr (row_cell HX0.out 3) (hwl)
    have q4 := cells_below hbr (row_cell HX0.out 4) (hwl)
    have q5 := cells_below hbr (row_cell HX0.out 5) (hwl)
    simp at q0 q1 q2 q3 q4 q5
    have x3 := cells_below hbr (row_cell HX1.out 10) hwl1
    simp at x3
    by_cases hkn : k < on
    case neg =>
      have hki : ¬ (k : Int) < on := by omega
      clear hbr hal
      go_wp2
      go_ret
      have hall : ∀ q ∈ op, 0 ≤ q ∧ q < (lc : Int) := fun q hq => by
        obtain ⟨j, hj, rfl⟩ := List.getElem_of_mem hq
        have := HAL.out j (by have := HOL.out; omega)
        rwa [List.getD_eq_getElem?_getD, List.getElem?_eq_getElem hj] at this
      refine ⟨true, rfl, fun _ => by rw [HQ.out]; exact ⟨HPL.out, HN.out, HS.out, hall⟩, HB.out.trans (HBR.out.mono HB.out.size)⟩
    have hki : (k : Int) < on := by omega
    obtain ⟨ob, oo, rfl, hob, hco⟩ := (HO.out.below (HB.out.trans (hbr.mono HB.out.size))).mem (by omega)
    have co := hco k hkn
    obtain ⟨qv, hqv⟩ : ∃ qv, op.getD k 0 = qv := ⟨_, rfl⟩
    rw [hqv] at co
    have HQV := Lib.hid hqv
    clear hqv hco hob hbr hal
    go_wp2
    refine quiet_tail 6 (by kernel_rfl) (by kernel_rfl) ?_
    simp only [List.take_succ_cons, List.take_zero, List.drop_succ_cons, List.drop_zero]
    repeat (quiet_step (fail))
    refine wpQuiet_nil ?_
    intro _ hw'
    obtain ⟨nq, hw''⟩ := hw'
    subst hw''
    have hbq : Below v.heap.size v (wr.drewN nq) := below_drewN HBR.out nq
    have HBQ := Lib.hid hbq
    clear hbq q0 q1 q2 q3 q4 q5 x3 co
    go_wp2_with fail
    refine (HFN.out qv _ (HB.out.trans (HBQ.out.mono HB.out.size))).mono ?_
    rintro e v2 ⟨rfl, hb⟩
    have HB2 := Lib.hid (HBQ.out.trans (hb.mono HBQ.out.size))
    clear hb
    by_cases hpq : 0 ≤ qv ∧ qv < (lc : Int)
    case neg =>
      rw [HNO.out qv hpq]
      clear hpq
      go_wp2
      go_ret
      exact ⟨_, rfl, fun h => Bool.noConfusion h, HB.out.trans (HB2.out.mono HB.out.size)⟩
    obtain ⟨g, hg⟩ := HYES.out qv hpq
    rw [hg]
    have HPQ := Lib.hid hpq
    clear hg hpq
    have hg0 : ¬ (g : Int) < 0 := by omega
    go_wp2
    go_roundw
    case rel =>
      refine ⟨k + 1, by omega, by go_num, HB2.out, fun j hj => ?_⟩
      rcases Nat.lt_succ_iff_lt_or_eq.1 hj with h | h
      · exact HAL.out j h
      · rw [h, HQV.out]; exact HPQ.out
    case measure => simp [intOf]; omega
end Go.Proofs.YtfhnigfghfmolaaDoor
namespace Go.Proofs.YtfhnigfghfmolaaDoor
set_option maxRecDepth 100000
open Go.RowKit

theorem size45 (cs : Array Value) (h : cs.size = 11) : (Tryd.prog.info? 45).map (·.size) = some cs.size := by rw [h]; kernel_rfl
theorem store_r {ops : Array Oper} {rest : List Oper} {o : Oper} {a : Act} {w : World} {Q : Exit → Act → World → Prop} (x y : Operand) (g : Nat) (old cs : Array Value) (hr : w.heap[g]? = some (.cells old 45 (0, 0))) (hz : old.size = 11) (hgd : o.guard = none) (ho : o.op = .store 45 x y)
    (hx : a.eval x = .pointer (some ⟨g, 0, none⟩)) (hy : a.eval y = .agg cs) (hc : cs.size = 11) (h1 : cs.all (·.oneCell') = true)
    (h : wpList Tryd.prog ops Q rest (a.put o.dst undef) (w.setRow g cs)) : wpList Tryd.prog ops Q (o :: rest) a w :=
  wpList_store_row hgd 45 x y ho g cs hx hy 45 old hr (size45 cs hc) (by rw [hz, hc]) h1 h
theorem ret_r {fn : Func} {p : Tmp} {R : Ending → World → Prop} {a : Act} {w : World} (g : Nat) (cs : Array Value) (hr : w.heap[g]? = some (.cells cs 45 (0, 0))) (hc : cs.size = 11) (hf : fn.results = #[.cell p 45]) (hd : a.defers = []) (hp : a.tmps.getD p undef = .pointer (some ⟨g, 0, none⟩)) (hR : R (.returned (.agg cs)) w) :
    bodyPost Tryd.prog fn R .ret a w :=
  bodyPost_ret (results_cell_row hf a.tmps w g 45 cs (0, 0) _ hp hr Tryd.underlying45 rfl (size45 cs hc)) hd hR
theorem ret_r2 {fn : Func} {p q : Tmp} {R : Ending → World → Prop} {a : Act} {w : World} (g : Nat) (cs : Array Value) (v : Value) (hr : w.heap[g]? = some (.cells cs 45 (0, 0))) (hc : cs.size = 11) (hf : fn.results = #[.cell p 45, .tmp q]) (hd : a.defers = []) (hp : a.tmps.getD p undef = .pointer (some ⟨g, 0, none⟩)) (hq : a.tmps.getD q undef = v) (hR : R (.returned (.tuple #[.agg cs, v])) w) :
    bodyPost Tryd.prog fn R .ret a w := by
  have hp' : a.tmps[p]?.getD undef = .pointer (some ⟨g, 0, none⟩) := by simpa using hp
  have hq' : a.tmps[q]?.getD undef = v := by simpa using hq
  refine bodyPost_ret (v := .tuple #[.agg cs, v]) ?_ hd hR
  simp [results, hf, hp', hq', asAddr, run_loadVar_row w g 45 45 cs (0, 0) _ hr Tryd.underlying45 rfl (size45 cs hc)]

set_option maxRecDepth 20000 in
set_option maxHeartbeats 3200000 in
theorem rwith_0 (pl : Int) (z0 z1 z2 z3 z4 z5 z6 z7 : Int) (MA : Option Addr) (mn mc : Nat) (OA : Option Addr) (on oc : Nat) (x : Int) (w : World) (p0 : 0 ≤ pl) (p1 : pl < 1000000) :
    Calls Tryd.prog 37 #[.agg #[.int .i64 pl, .int .u64 z0, .int .u64 z1, .int .u64 z2, .int .u64 z3, .int .u64 z4, .int .u64 z5, .int .u64 z6, .int .u64 z7, .slice MA mn mc, .slice OA on oc], .int .i64 0, .int .u64 x] w fun e w' => e = .returned (.agg #[.int .i64 (pl + 1), .int .u64 x, .int .u64 z1, .int .u64 z2, .int .u64 z3, .int .u64 z4, .int .u64 z5, .int .u64 z6, .int .u64 z7, .slice MA mn mc, .slice OA on oc]) ∧ Below w.heap.size w w' := by
  have hw : IntKind.i64.wrap (pl + 1) = pl + 1 := by rw [IntKind.wrap_i64]; omega
  clear p0 p1
  go_enter Tryd.func37, Tryd.ntmps37
  go_wp2
  refine ret_r (w.heap.size + 1) #[.int .i64 (pl + 1), .int .u64 x, .int .u64 z1, .int .u64 z2, .int .u64 z3, .int .u64 z4, .int .u64 z5, .int .u64 z6, .int .u64 z7, .slice MA mn mc, .slice OA on oc] (heap_newM (by simp)) rfl rfl rfl rfl ?_
  exact ⟨rfl, ((Below.refl _ _).alloc (Nat.le_refl _) _).alloc (by simp) _⟩

set_option maxRecDepth 20000 in
set_option maxHeartbeats 3200000 in
theorem rwith_1 (pl : Int) (z0 z1 z2 z3 z4 z5 z6 z7 : Int) (MA : Option Addr) (mn mc : Nat) (OA : Option Addr) (on oc : Nat) (x : Int) (w : World) (p0 : 0 ≤ pl) (p1 : pl < 1000000) :
    Calls Tryd.prog 37 #[.agg #[.int .i64 pl, .int .u64 z0, .int .u64 z1, .int .u64 z2, .int .u64 z3, .int .u64 z4, .int .u64 z5, .int .u64 z6, .int .u64 z7, .slice MA mn mc, .slice OA on oc], .int .i64 1, .int .u64 x] w fun e w' => e = .returned (.agg #[.int .i64 (pl + 1), .int .u64 z0, .int .u64 x, .int .u64 z2, .int .u64 z3, .int .u64 z4, .int .u64 z5, .int .u64 z6, .int .u64 z7, .slice MA mn mc, .slice OA on oc]) ∧ Below w.heap.size w w' := by
  have hw : IntKind.i64.wrap (pl + 1) = pl + 1 := by rw [IntKind.wrap_i64]; omega
  clear p0 p1
  go_enter Tryd.func37, Tryd.ntmps37
  go_wp2
  refine ret_r (w.heap.size + 1) #[.int .i64 (pl + 1), .int .u64 z0, .int .u64 x, .int .u64 z2, .int .u64 z3, .int .u64 z4, .int .u64 z5, .int .u64 z6, .int .u64 z7, .slice MA mn mc, .slice OA on oc] (heap_newM (by simp)) rfl rfl rfl rfl ?_
  exact ⟨rfl, ((Below.refl _ _).alloc (Nat.le_refl _) _).alloc (by simp) _⟩

set_option maxRecDepth 20000 in
set_option maxHeartbeats 3200000 in
theorem rwith_2 (pl : Int) (z0 z1 z2 z3 z4 z5 z6 z7 : Int) (MA : Option Addr) (mn mc : Nat) (OA : Option Addr) (on oc : Nat) (x : Int) (w : World) (p0 : 0 ≤ pl) (p1 : pl < 1000000) :
    Calls Tryd.prog 37 #[.agg #[.int .i64 pl, .int .u64 z0, .int .u64 z1, .int .u64 z2, .int .u64 z3, .int .u64 z4, .int .u64 z5, .int .u64 z6, .int .u64 z7, .slice MA mn mc, .slice OA on oc], .int .i64 2, .int .u64 x] w fun e w' => e = .returned (.agg #[.int .i64 (pl + 1), .int .u64 z0, .int .u64 z1, .int .u64 x, .int .u64 z3, .int .u64 z4, .int .u64 z5, .int .u64 z6, .int .u64 z7, .slice MA mn mc, .slice OA on oc]) ∧ Below w.heap.size w w' := by
  have hw : IntKind.i64.wrap (pl + 1) = pl + 1 := by rw [IntKind.wrap_i64]; omega
  clear p0 p1
  go_enter Tryd.func37, Tryd.ntmps37
  go_wp2
  refine ret_r (w.heap.size + 1) #[.int .i64 (pl + 1), .int .u64 z0, .int .u64 z1, .int .u64 x, .int .u64 z3, .int .u64 z4, .int .u64 z5, .int .u64 z6, .int .u64 z7, .slice MA mn mc, .slice OA on oc] (heap_newM (by simp)) rfl rfl rfl rfl ?_
  exact ⟨rfl, ((Below.refl _ _).alloc (Nat.le_refl _) _).alloc (by simp) _⟩

set_option maxRecDepth 20000 in
set_option maxHeartbeats 3200000 in
theorem rwith_3 (pl : Int) (z0 z1 z2 z3 z4 z5 z6 z7 : Int) (MA : Option Addr) (mn mc : Nat) (OA : Option Addr) (on oc : Nat) (x : Int) (w : World) (p0 : 0 ≤ pl) (p1 : pl < 1000000) :
    Calls Tryd.prog 37 #[.agg #[.int .i64 pl, .int .u64 z0, .int .u64 z1, .int .u64 z2, .int .u64 z3, .int .u64 z4, .int .u64 z5, .int .u64 z6, .int .u64 z7, .slice MA mn mc, .slice OA on oc], .int .i64 3, .int .u64 x] w fun e w' => e = .returned (.agg #[.int .i64 (pl + 1), .int .u64 z0, .int .u64 z1, .int .u64 z2, .int .u64 x, .int .u64 z4, .int .u64 z5, .int .u64 z6, .int .u64 z7, .slice MA mn mc, .slice OA on oc]) ∧ Below w.heap.size w w' := by
  have hw : IntKind.i64.wrap (pl + 1) = pl + 1 := by rw [IntKind.wrap_i64]; omega
  clear p0 p1
  go_enter Tryd.func37, Tryd.ntmps37
  go_wp2
  refine ret_r (w.heap.size + 1) #[.int .i64 (pl + 1), .int .u64 z0, .int .u64 z1, .int .u64 z2, .int .u64 x, .int .u64 z4, .int .u64 z5, .int .u64 z6, .int .u64 z7, .slice MA mn mc, .slice OA on oc] (heap_newM (by simp)) rfl rfl rfl rfl ?_
  exact ⟨rfl, ((Below.refl _ _).alloc (Nat.le_refl _) _).alloc (by simp) _⟩

set_option maxRecDepth 20000 in
set_option maxHeartbeats 3200000 in
theorem rwith_4 (pl : Int) (z0 z1 z2 z3 z4 z5 z6 z7 : Int) (MA : Option Addr) (mn mc : Nat) (OA : Option Addr) (on oc : Nat) (x : Int) (w : World) (p0 : 0 ≤ pl) (p1 : pl < 1000000) :
    Calls Tryd.prog 37 #[.agg #[.int .i64 pl, .int .u64 z0, .int .u64 z1, .int .u64 z2, .int .u64 z3, .int .u64 z4, .int .u64 z5, .int .u64 z6, .int .u64 z7, .slice MA mn mc, .slice OA on oc], .int .i64 4, .int .u64 x] w fun e w' => e = .returned (.agg #[.int .i64 (pl + 1), .int .u64 z0, .int .u64 z1, .int .u64 z2, .int .u64 z3, .int .u64 x, .int .u64 z5, .int .u64 z6, .int .u64 z7, .slice MA mn mc, .slice OA on oc]) ∧ Below w.heap.size w w' := by
  have hw : IntKind.i64.wrap (pl + 1) = pl + 1 := by rw [IntKind.wrap_i64]; omega
  clear p0 p1
  go_enter Tryd.func37, Tryd.ntmps37
  go_wp2
  refine ret_r (w.heap.size + 1) #[.int .i64 (pl + 1), .int .u64 z0, .int .u64 z1, .int .u64 z2, .int .u64 z3, .int .u64 x, .int .u64 z5, .int .u64 z6, .int .u64 z7, .slice MA mn mc, .slice OA on oc] (heap_newM (by simp)) rfl rfl rfl rfl ?_
  exact ⟨rfl, ((Below.refl _ _).alloc (Nat.le_refl _) _).alloc (by simp) _⟩

set_option maxRecDepth 20000 in
set_option maxHeartbeats 3200000 in
theorem rwith_5 (pl : Int) (z0 z1 z2 z3 z4 z5 z6 z7 : Int) (MA : Option Addr) (mn mc : Nat) (OA : Option Addr) (on oc : Nat) (x : Int) (w : World) (p0 : 0 ≤ pl) (p1 : pl < 1000000) :
    Calls Tryd.prog 37 #[.agg #[.int .i64 pl, .int .u64 z0, .int .u64 z1, .int .u64 z2, .int .u64 z3, .int .u64 z4, .int .u64 z5, .int .u64 z6, .int .u64 z7, .slice MA mn mc, .slice OA on oc], .int .i64 5, .int .u64 x] w fun e w' => e = .returned (.agg #[.int .i64 (pl + 1), .int .u64 z0, .int .u64 z1, .int .u64 z2, .int .u64 z3, .int .u64 z4, .int .u64 x, .int .u64 z6, .int .u64 z7, .slice MA mn mc, .slice OA on oc]) ∧ Below w.heap.size w w' := by
  have hw : IntKind.i64.wrap (pl + 1) = pl + 1 := by rw [IntKind.wrap_i64]; omega
  clear p0 p1
  go_enter Tryd.func37, Tryd.ntmps37
  go_wp2
  refine ret_r (w.heap.size + 1) #[.int .i64 (pl + 1), .int .u64 z0, .int .u64 z1, .int .u64 z2, .int .u64 z3, .int .u64 z4, .int .u64 x, .int .u64 z6, .int .u64 z7, .slice MA mn mc, .slice OA on oc] (heap_newM (by simp)) rfl rfl rfl rfl ?_
  exact ⟨rfl, ((Below.refl _ _).alloc (Nat.le_refl _) _).alloc (by simp) _⟩

set_option maxRecDepth 20000 in
set_option maxHeartbeats 3200000 in
theorem rwith_6 (pl : Int) (z0 z1 z2 z3 z4 z5 z6 z7 : Int) (MA : Option Addr) (mn mc : Nat) (OA : Option Addr) (on oc : Nat) (x : Int) (w : World) (p0 : 0 ≤ pl) (p1 : pl < 1000000) :
    Calls Tryd.prog 37 #[.agg #[.int .i64 pl, .int .u64 z0, .int .u64 z1, .int .u64 z2, .int .u64 z3, .int .u64 z4, .int .u64 z5, .int .u64 z6, .int .u64 z7, .slice MA mn mc, .slice OA on oc], .int .i64 6, .int .u64 x] w fun e w' => e = .returned (.agg #[.int .i64 (pl + 1), .int .u64 z0, .int .u64 z1, .int .u64 z2, .int .u64 z3, .int .u64 z4, .int .u64 z5, .int .u64 x, .int .u64 z7, .slice MA mn mc, .slice OA on oc]) ∧ Below w.heap.size w w' := by
  have hw : IntKind.i64.wrap (pl + 1) = pl + 1 := by rw [IntKind.wrap_i64]; omega
  clear p0 p1
  go_enter Tryd.func37, Tryd.ntmps37
  go_wp2
  refine ret_r (w.heap.size + 1) #[.int .i64 (pl + 1), .int .u64 z0, .int .u64 z1, .int .u64 z2, .int .u64 z3, .int .u64 z4, .int .u64 z5, .int .u64 x, .int .u64 z7, .slice MA mn mc, .slice OA on oc] (heap_newM (by simp)) rfl rfl rfl rfl ?_
  exact ⟨rfl, ((Below.refl _ _).alloc (Nat.le_refl _) _).alloc (by simp) _⟩

set_option maxRecDepth 20000 in
set_option maxHeartbeats 3200000 in
theorem rwith_7 (pl : Int) (z0 z1 z2 z3 z4 z5 z6 z7 : Int) (MA : Option Addr) (mn mc : Nat) (OA : Option Addr) (on oc : Nat) (x : Int) (w : World) (p0 : 0 ≤ pl) (p1 : pl < 1000000) :
    Calls Tryd.prog 37 #[.agg #[.int .i64 pl, .int .u64 z0, .int .u64 z1, .int .u64 z2, .int .u64 z3, .int .u64 z4, .int .u64 z5, .int .u64 z6, .int .u64 z7, .slice MA mn mc, .slice OA on oc], .int .i64 7, .int .u64 x] w fun e w' => e = .returned (.agg #[.int .i64 (pl + 1), .int .u64 z0, .int .u64 z1, .int .u64 z2, .int .u64 z3, .int .u64 z4, .int .u64 z5, .int .u64 z6, .int .u64 x, .slice MA mn mc, .slice OA on oc]) ∧ Below w.heap.size w w' := by
  have hw : IntKind.i64.wrap (pl + 1) = pl + 1 := by rw [IntKind.wrap_i64]; omega
  clear p0 p1
  go_enter Tryd.func37, Tryd.ntmps37
  go_wp2
  refine ret_r (w.heap.size + 1) #[.int .i64 (pl + 1), .int .u64 z0, .int .u64 z1, .int .u64 z2, .int .u64 z3, .int .u64 z4, .int .u64 z5, .int .u64 z6, .int .u64 x, .slice MA mn mc, .slice OA on oc] (heap_newM (by simp)) rfl rfl rfl rfl ?_
  exact ⟨rfl, ((Below.refl _ _).alloc (Nat.le_refl _) _).alloc (by simp) _⟩

theorem rwith_any (reg : Nat) (hr : reg < 8) (s : Mc.St) (hl : s.rg.length = 8) (MA : Option Addr) (mn mc : Nat) (OA : Option Addr) (on oc : Nat) (x : Int) (w : World) (p0 : 0 ≤ s.pl) (p1 : s.pl < 1000000) :
    Calls Tryd.prog 37 #[.agg (stC s (.slice MA mn mc) (.slice OA on oc)), .int .i64 reg, .int .u64 x] w fun e w' => e = .returned (.agg (stC { s with rg := s.rg.set reg x, pl := s.pl + 1 } (.slice MA mn mc) (.slice OA on oc))) ∧ Below w.heap.size w w' := by
  obtain ⟨pl, rg, mm, op⟩ := s
  have h8 := Mc.rg8 rg hl
  simp only at p0 p1 ⊢
  generalize rg.getD 0 0 = z0 at *
  generalize rg.getD 1 0 = z1 at *
  generalize rg.getD 2 0 = z2 at *
  generalize rg.getD 3 0 = z3 at *
  generalize rg.getD 4 0 = z4 at *
  generalize rg.getD 5 0 = z5 at *
  generalize rg.getD 6 0 = z6 at *
  generalize rg.getD 7 0 = z7 at *
  subst h8
  match reg, hr with
  | 0, _ => exact rwith_0 pl z0 z1 z2 z3 z4 z5 z6 z7 MA mn mc OA on oc x w p0 p1
  | 1, _ => exact rwith_1 pl z0 z1 z2 z3 z4 z5 z6 z7 MA mn mc OA on oc x w p0 p1
  | 2, _ => exact rwith_2 pl z0 z1 z2 z3 z4 z5 z6 z7 MA mn mc OA on oc x w p0 p1
  | 3, _ => exact rwith_3 pl z0 z1 z2 z3 z4 z5 z6 z7 MA mn mc OA on oc x w p0 p1
  | 4, _ => exact rwith_4 pl z0 z1 z2 z3 z4 z5 z6 z7 MA mn mc OA on oc x w p0 p1
  | 5, _ => exact rwith_5 pl z0 z1 z2 z3 z4 z5 z6 z7 MA mn mc OA on oc x w p0 p1
  | 6, _ => exact rwith_6 pl z0 z1 z2 z3 z4 z5 z6 z7 MA mn mc OA on oc x w p0 p1
  | 7, _ => exact rwith_7 pl z0 z1 z2 z3 z4 z5 z6 z7 MA mn mc OA on oc x w p0 p1
end Go.Proofs.YtfhnigfghfmolaaDoor
namespace Go.Proofs.YtfhnigfghfmolaaDoor
set_option maxRecDepth 100000
open Go.RowKit

set_option maxRecDepth 20000 in
set_option maxHeartbeats 3200000 in
theorem rflow_jump (mem stk inp : Int) (Ad : Option Addr) (ld cd : Nat) (Af : Option Addr) (lf cf : Nat) (Ac : Option Addr) (lc cc : Nat) (pl : Int) (z0 z1 z2 z3 z4 z5 z6 z7 : Int) (MA : Option Addr) (mn mc : Nat) (OA : Option Addr) (on oc : Nat) (a b c m : Int) (w : World) (m0 : 0 ≤ m) (m1 : m < 1000000) :
    Calls Tryd.prog 39 #[.agg #[.int .i64 mem, .int .i64 stk, .int .i64 inp, .slice Ad ld cd, .slice Af lf cf, .slice Ac lc cc], .agg #[.int .i64 21, .int .i64 a, .int .i64 b, .int .i64 c, .int .u64 m], .agg #[.int .i64 pl, .int .u64 z0, .int .u64 z1, .int .u64 z2, .int .u64 z3, .int .u64 z4, .int .u64 z5, .int .u64 z6, .int .u64 z7, .slice MA mn mc, .slice OA on oc]] w fun e w' => e = .returned (.tuple #[.agg #[.int .i64 m, .int .u64 z0, .int .u64 z1, .int .u64 z2, .int .u64 z3, .int .u64 z4, .int .u64 z5, .int .u64 z6, .int .u64 z7, .slice MA mn mc, .slice OA on oc], .int .i64 0]) ∧ Below w.heap.size w w' := by
  have hw : IntKind.i64.wrap m = m := by rw [IntKind.wrap_i64]; omega
  clear m0 m1
  go_enter Tryd.func39, Tryd.ntmps39
  go_wp2
  refine ret_r2 (w.heap.size + 1 + 1 + 1) #[.int .i64 m, .int .u64 z0, .int .u64 z1, .int .u64 z2, .int .u64 z3, .int .u64 z4, .int .u64 z5, .int .u64 z6, .int .u64 z7, .slice MA mn mc, .slice OA on oc] (.int .i64 0) (heap_newM (by simp)) rfl rfl rfl rfl rfl ?_
  exact ⟨rfl, (((((Below.refl _ _).alloc (Nat.le_refl _) _).alloc (by simp) _).alloc (by simp; omega) _).alloc (by simp; omega) _)⟩

set_option maxRecDepth 20000 in
set_option maxHeartbeats 3200000 in
theorem rflow_on_0 (mem stk inp : Int) (Ad : Option Addr) (ld cd : Nat) (Af : Option Addr) (lf cf : Nat) (Ac : Option Addr) (lc cc : Nat) (pl : Int) (z0 z1 z2 z3 z4 z5 z6 z7 : Int) (MA : Option Addr) (mn mc : Nat) (OA : Option Addr) (on oc : Nat) (b c m : Int) (w : World) (m0 : 0 ≤ m) (m1 : m < 1000000) (hz : z0 ≠ 0) :
    Calls Tryd.prog 39 #[.agg #[.int .i64 mem, .int .i64 stk, .int .i64 inp, .slice Ad ld cd, .slice Af lf cf, .slice Ac lc cc], .agg #[.int .i64 22, .int .i64 0, .int .i64 b, .int .i64 c, .int .u64 m], .agg #[.int .i64 pl, .int .u64 z0, .int .u64 z1, .int .u64 z2, .int .u64 z3, .int .u64 z4, .int .u64 z5, .int .u64 z6, .int .u64 z7, .slice MA mn mc, .slice OA on oc]] w fun e w' => e = .returned (.tuple #[.agg #[.int .i64 m, .int .u64 z0, .int .u64 z1, .int .u64 z2, .int .u64 z3, .int .u64 z4, .int .u64 z5, .int .u64 z6, .int .u64 z7, .slice MA mn mc, .slice OA on oc], .int .i64 0]) ∧ Below w.heap.size w w' := by
  have hw : IntKind.i64.wrap m = m := by rw [IntKind.wrap_i64]; omega
  have hz' : (z0 != 0) = true := by simpa using hz
  clear m0 m1 hz
  go_enter Tryd.func39, Tryd.ntmps39
  go_wp2
  refine ret_r2 (w.heap.size + 1 + 1 + 1) #[.int .i64 m, .int .u64 z0, .int .u64 z1, .int .u64 z2, .int .u64 z3, .int .u64 z4, .int .u64 z5, .int .u64 z6, .int .u64 z7, .slice MA mn mc, .slice OA on oc] (.int .i64 0) (heap_newM (by simp)) rfl rfl rfl rfl rfl ?_
  exact ⟨rfl, (((((Below.refl _ _).alloc (Nat.le_refl _) _).alloc (by simp) _).alloc (by simp; omega) _).alloc (by simp; omega) _)⟩

set_option maxRecDepth 20000 in
set_option maxHeartbeats 3200000 in
theorem rflow_by_0 (mem stk inp : Int) (Ad : Option Addr) (ld cd : Nat) (Af : Option Addr) (lf cf : Nat) (Ac : Option Addr) (lc cc : Nat) (pl : Int) (z0 z1 z2 z3 z4 z5 z6 z7 : Int) (MA : Option Addr) (mn mc : Nat) (OA : Option Addr) (on oc : Nat) (b c m : Int) (w : World) (p0 : 0 ≤ pl) (p1 : pl < 1000000) (hz : z0 = 0) :
    Calls Tryd.prog 39 #[.agg #[.int .i64 mem, .int .i64 stk, .int .i64 inp, .slice Ad ld cd, .slice Af lf cf, .slice Ac lc cc], .agg #[.int .i64 22, .int .i64 0, .int .i64 b, .int .i64 c, .int .u64 m], .agg #[.int .i64 pl, .int .u64 z0, .int .u64 z1, .int .u64 z2, .int .u64 z3, .int .u64 z4, .int .u64 z5, .int .u64 z6, .int .u64 z7, .slice MA mn mc, .slice OA on oc]] w fun e w' => e = .returned (.tuple #[.agg #[.int .i64 (pl + 1), .int .u64 z0, .int .u64 z1, .int .u64 z2, .int .u64 z3, .int .u64 z4, .int .u64 z5, .int .u64 z6, .int .u64 z7, .slice MA mn mc, .slice OA on oc], .int .i64 0]) ∧ Below w.heap.size w w' := by
  have hw : IntKind.i64.wrap (pl + 1) = pl + 1 := by rw [IntKind.wrap_i64]; omega
  have hz' : (z0 != 0) = false := by simp [hz]
  clear p0 p1 hz
  go_enter Tryd.func39, Tryd.ntmps39
  go_wp2
  refine ret_r2 (w.heap.size + 1 + 1 + 1) #[.int .i64 (pl + 1), .int .u64 z0, .int .u64 z1, .int .u64 z2, .int .u64 z3, .int .u64 z4, .int .u64 z5, .int .u64 z6, .int .u64 z7, .slice MA mn mc, .slice OA on oc] (.int .i64 0) (heap_newM (by simp)) rfl rfl rfl rfl rfl ?_
  exact ⟨rfl, (((((Below.refl _ _).alloc (Nat.le_refl _) _).alloc (by simp) _).alloc (by simp; omega) _).alloc (by simp; omega) _)⟩

set_option maxRecDepth 20000 in
set_option maxHeartbeats 3200000 in
theorem rflow_on_1 (mem stk inp : Int) (Ad : Option Addr) (ld cd : Nat) (Af : Option Addr) (lf cf : Nat) (Ac : Option Addr) (lc cc : Nat) (pl : Int) (z0 z1 z2 z3 z4 z5 z6 z7 : Int) (MA : Option Addr) (mn mc : Nat) (OA : Option Addr) (on oc : Nat) (b c m : Int) (w : World) (m0 : 0 ≤ m) (m1 : m < 1000000) (hz : z1 ≠ 0) :
    Calls Tryd.prog 39 #[.agg #[.int .i64 mem, .int .i64 stk, .int .i64 inp, .slice Ad ld cd, .slice Af lf cf, .slice Ac lc cc], .agg #[.int .i64 22, .int .i64 1, .int .i64 b, .int .i64 c, .int .u64 m], .agg #[.int .i64 pl, .int .u64 z0, .int .u64 z1, .int .u64 z2, .int .u64 z3, .int .u64 z4, .int .u64 z5, .int .u64 z6, .int .u64 z7, .slice MA mn mc, .slice OA on oc]] w fun e w' => e = .returned (.tuple #[.agg #[.int .i64 m, .int .u64 z0, .int .u64 z1, .int .u64 z2, .int .u64 z3, .int .u64 z4, .int .u64 z5, .int .u64 z6, .int .u64 z7, .slice MA mn mc, .slice OA on oc], .int .i64 0]) ∧ Below w.heap.size w w' := by
  have hw : IntKind.i64.wrap m = m := by rw [IntKind.wrap_i64]; omega
  have hz' : (z1 != 0) = true := by simpa using hz
  clear m0 m1 hz
  go_enter Tryd.func39, Tryd.ntmps39
  go_wp2
  refine ret_r2 (w.heap.size + 1 + 1 + 1) #[.int .i64 m, .int .u64 z0, .int .u64 z1, .int .u64 z2, .int .u64 z3, .int .u64 z4, .int .u64 z5, .int .u64 z6, .int .u64 z7, .slice MA mn mc, .slice OA on oc] (.int .i64 0) (heap_newM (by simp)) rfl rfl rfl rfl rfl ?_
  exact ⟨rfl, (((((Below.refl _ _).alloc (Nat.le_refl _) _).alloc (by simp) _).alloc (by simp; omega) _).alloc (by simp; omega) _)⟩

set_option maxRecDepth 20000 in
set_option maxHeartbeats 3200000 in
theorem rflow_by_1 (mem stk inp : Int) (Ad : Option Addr) (ld cd : Nat) (Af : Option Addr) (lf cf : Nat) (Ac : Option Addr) (lc cc : Nat) (pl : Int) (z0 z1 z2 z3 z4 z5 z6 z7 : Int) (MA : Option Addr) (mn mc : Nat) (OA : Option Addr) (on oc : Nat) (b c m : Int) (w : World) (p0 : 0 ≤ pl) (p1 : pl < 1000000) (hz : z1 = 0) :
    Calls Tryd.prog 39 #[.agg #[.int .i64 mem, .int .i64 stk, .int .i64 inp, .slice Ad ld cd, .slice Af lf cf, .slice Ac lc cc], .agg #[.int .i64 22, .int .i64 1, .int .i64 b, .int .i64 c, .int .u64 m], .agg #[.int .i64 pl, .int .u64 z0, .int .u64 z1, .int .u64 z2, .int .u64 z3, .int .u64 z4, .int .u64 z5, .int .u64 z6, .int .u64 z7, .slice MA mn mc, .slice OA on oc]] w fun e w' => e = .returned (.tuple #[.agg #[.int .i64 (pl + 1), .int .u64 z0, .int .u64 z1, .int .u64 z2, .int .u64 z3, .int .u64 z4, .int .u64 z5, .int .u64 z6, .int .u64 z7, .slice MA mn mc, .slice OA on oc], .int .i64 0]) ∧ Below w.heap.size w w' := by
  have hw : IntKind.i64.wrap (pl + 1) = pl + 1 := by rw [IntKind.wrap_i64]; omega
  have hz' : (z1 != 0) = false := by simp [hz]
  clear p0 p1 hz
  go_enter Tryd.func39, Tryd.ntmps39
  go_wp2
  refine ret_r2 (w.heap.size + 1 + 1 + 1) #[.int .i64 (pl + 1), .int .u64 z0, .int .u64 z1, .int .u64 z2, .int .u64 z3, .int .u64 z4, .int .u64 z5, .int .u64 z6, .int .u64 z7, .slice MA mn mc, .slice OA on oc] (.int .i64 0) (heap_newM (by simp)) rfl rfl rfl rfl rfl ?_
  exact ⟨rfl, (((((Below.refl _ _).alloc (Nat.le_refl _) _).alloc (by simp) _).alloc (by simp; omega) _).alloc (by simp; omega) _)⟩

set_option maxRecDepth 20000 in
set_option maxHeartbeats 3200000 in
theorem rflow_on_2 (mem stk inp : Int) (Ad : Option Addr) (ld cd : Nat) (Af : Option Addr) (lf cf : Nat) (Ac : Option Addr) (lc cc : Nat) (pl : Int) (z0 z1 z2 z3 z4 z5 z6 z7 : Int) (MA : Option Addr) (mn mc : Nat) (OA : Option Addr) (on oc : Nat) (b c m : Int) (w : World) (m0 : 0 ≤ m) (m1 : m < 1000000) (hz : z2 ≠ 0) :
    Calls Tryd.prog 39 #[.agg #[.int .i64 mem, .int .i64 stk, .int .i64 inp, .slice Ad ld cd, .slice Af lf cf, .slice Ac lc cc], .agg #[.int .i64 22, .int .i64 2, .int .i64 b, .int .i64 c, .int .u64 m], .agg #[.int .i64 pl, .int .u64 z0, .int .u64 z1, .int .u64 z2, .int .u64 z3, .int .u64 z4, .int .u64 z5, .int .u64 z6, .int .u64 z7, .slice MA mn mc, .slice OA on oc]] w fun e w' => e = .returned (.tuple #[.agg #[.int .i64 m, .int .u64 z0, .int .u64 z1, .int .u64 z2, .int .u64 z3, .int .u64 z4, .int .u64 z5, .int .u64 z6, .int .u64 z7, .slice MA mn mc, .slice OA on oc], .int .i64 0]) ∧ Below w.heap.size w w' := by
  have hw : IntKind.i64.wrap m = m := by rw [IntKind.wrap_i64]; omega
  have hz' : (z2 != 0) = true := by simpa using hz
  clear m0 m1 hz
  go_enter Tryd.func39, Tryd.ntmps39
  go_wp2
  refine ret_r2 (w.heap.size + 1 + 1 + 1) #[.int .i64 m, .int .u64 z0, .int .u64 z1, .int .u64 z2, .int .u64 z3, .int .u64 z4, .int .u64 z5, .int .u64 z6, .int .u64 z7, .slice MA mn mc, .slice OA on oc] (.int .i64 0) (heap_newM (by simp)) rfl rfl rfl rfl rfl ?_
  exact ⟨rfl, (((((Below.refl _ _).alloc (Nat.le_refl _) _).alloc (by simp) _).alloc (by simp; omega) _).alloc (by simp; omega) _)⟩

set_option maxRecDepth 20000 in
set_option maxHeartbeats 3200000 in
theorem rflow_by_2 (mem stk inp : Int) (Ad : Option Addr) (ld cd : Nat) (Af : Option Addr) (lf cf : Nat) (Ac : Option Addr) (lc cc : Nat) (pl : Int) (z0 z1 z2 z3 z4 z5 z6 z7 : Int) (MA : Option Addr) (mn mc : Nat) (OA : Option Addr) (on oc : Nat) (b c m : Int) (w : World) (p0 : 0 ≤ pl) (p1 : pl < 1000000) (hz : z2 = 0) :
    Calls Tryd.prog 39 #[.agg #[.int .i64 mem, .int .i64 stk, .int .i64 inp, .slice Ad ld cd, .slice Af lf cf, .slice Ac lc cc], .agg #[.int .i64 22, .int .i64 2, .int .i64 b, .int .i64 c, .int .u64 m], .agg #[.int .i64 pl, .int .u64 z0, .int .u64 z1, .int .u64 z2, .int .u64 z3, .int .u64 z4, .int .u64 z5, .int .u64 z6, .int .u64 z7, .slice MA mn mc, .slice OA on oc]] w fun e w' => e = .returned (.tuple #[.agg #[.int .i64 (pl + 1), .int .u64 z0, .int .u64 z1, .int .u64 z2, .int .u64 z3, .int .u64 z4, .int .u64 z5, .int .u64 z6, .int .u64 z7, .slice MA mn mc, .slice OA on oc], .int .i64 0]) ∧ Below w.heap.size w w' := by
  have hw : IntKind.i64.wrap (pl + 1) = pl + 1 := by rw [IntKind.wrap_i64]; omega
  have hz' : (z2 != 0) = false := by simp [hz]
  clear p0 p1 hz
  go_enter Tryd.func39, Tryd.ntmps39
  go_wp2
  refine ret_r2 (w.heap.size + 1 + 1 + 1) #[.int .i64 (pl + 1), .int .u64 z0, .int .u64 z1, .int .u64 z2, .int .u64 z3, .int .u64 z4, .int .u64 z5, .int .u64 z6, .int .u64 z7, .slice MA mn mc, .slice OA on oc] (.int .i64 0) (heap_newM (by simp)) rfl rfl rfl rfl rfl ?_
  exact ⟨rfl, (((((Below.refl _ _).alloc (Nat.le_refl _) _).alloc (by simp) _).alloc (by simp; omega) _).alloc (by simp; omega) _)⟩

set_option maxRecDepth 20000 in
set_option maxHeartbeats 3200000 in
theorem rflow_on_3 (mem stk inp : Int) (Ad : Option Addr) (ld cd : Nat) (Af : Option Addr) (lf cf : Nat) (Ac : Option Addr) (lc cc : Nat) (pl : Int) (z0 z1 z2 z3 z4 z5 z6 z7 : Int) (MA : Option Addr) (mn mc : Nat) (OA : Option Addr) (on oc : Nat) (b c m : Int) (w : World) (m0 : 0 ≤ m) (m1 : m < 1000000) (hz : z3 ≠ 0) :
    Calls Tryd.prog 39 #[.agg #[.int .i64 mem, .int .i64 stk, .int .i64 inp, .slice Ad ld cd, .slice Af lf cf, .slice Ac lc cc], .agg #[.int .i64 22, .int .i64 3, .int .i64 b, .int .i64 c, .int .u64 m], .agg #[.int .i64 pl, .int .u64 z0, .int .u64 z1, .int .u64 z2, .int .u64 z3, .int .u64 z4, .int .u64 z5, .int .u64 z6, .int .u64 z7, .slice MA mn mc, .slice OA on oc]] w fun e w' => e = .returned (.tuple #[.agg #[.int .i64 m, .int .u64 z0, .int .u64 z1, .int .u64 z2, .int .u64 z3, .int .u64 z4, .int .u64 z5, .int .u64 z6, .int .u64 z7, .slice MA mn mc, .slice OA on oc], .int .i64 0]) ∧ Below w.heap.size w w' := by
  have hw : IntKind.i64.wrap m = m := by rw [IntKind.wrap_i64]; omega
  have hz' : (z3 != 0) = true := by simpa using hz
  clear m0 m1 hz
  go_enter Tryd.func39, Tryd.ntmps39
  go_wp2
  refine ret_r2 (w.heap.size + 1 + 1 + 1) #[.int .i64 m, .int .u64 z0, .int .u64 z1, .int .u64 z2, .int .u64 z3, .int .u64 z4, .int .u64 z5, .int .u64 z6, .int .u64 z7, .slice MA mn mc, .slice OA on oc] (.int .i64 0) (heap_newM (by simp)) rfl rfl rfl rfl rfl ?_
  exact ⟨rfl, (((((Below.refl _ _).alloc (Nat.le_refl _) _).alloc (by simp) _).alloc (by simp; omega) _).alloc (by simp; omega) _)⟩

set_option maxRecDepth 20000 in
set_option maxHeartbeats 3200000 in
theorem rflow_by_3 (mem stk inp : Int) (Ad : Option Addr) (ld cd : Nat) (Af : Option Addr) (lf cf : Nat) (Ac : Option Addr) (lc cc : Nat) (pl : Int) (z0 z1 z2 z3 z4 z5 z6 z7 : Int) (MA : Option Addr) (mn mc : Nat) (OA : Option Addr) (on oc : Nat) (b c m : Int) (w : World) (p0 : 0 ≤ pl) (p1 : pl < 1000000) (hz : z3 = 0) :
    Calls Tryd.prog 39 #[.agg #[.int .i64 mem, .int .i64 stk, .int .i64 inp, .slice Ad ld cd, .slice Af lf cf, .slice Ac lc cc], .agg #[.int .i64 22, .int .i64 3, .int .i64 b, .int .i64 c, .int .u64 m], .agg #[.int .i64 pl, .int .u64 z0, .int .u64 z1, .int .u64 z2, .int .u64 z3, .int .u64 z4, .int .u64 z5, .int .u64 z6, .int .u64 z7, .slice MA mn mc, .slice OA on oc]] w fun e w' => e = .returned (.tuple #[.agg #[.int .i64 (pl + 1), .int .u64 z0, .int .u64 z1, .int .u64 z2, .int .u64 z3, .int .u64 z4, .int .u64 z5, .int .u64 z6, .int .u64 z7, .slice MA mn mc, .slice OA on oc], .int .i64 0]) ∧ Below w.heap.size w w' := by
  have hw : IntKind.i64.wrap (pl + 1) = pl + 1 := by rw [IntKind.wrap_i64]; omega
  have hz' : (z3 != 0) = false := by simp [hz]
  clear p0 p1 hz
  go_enter Tryd.func39, Tryd.ntmps39
  go_wp2
  refine ret_r2 (w.heap.size + 1 + 1 + 1) #[.int .i64 (pl + 1), .int .u64 z0, .int .u64 z1, .int .u64 z2, .int .u64 z3, .int .u64 z4, .int .u64 z5, .int .u64 z6, .int .u64 z7, .slice MA mn mc, .slice OA on oc] (.int .i64 0) (heap_newM (by simp)) rfl rfl rfl rfl rfl ?_
  exact ⟨rfl, (((((Below.refl _ _).alloc (Nat.le_refl _) _).alloc (by simp) _).alloc (by simp; omega) _).alloc (by simp; omega) _)⟩

set_option maxRecDepth 20000 in
set_option maxHeartbeats 3200000 in
theorem rflow_on_4 (mem stk inp : Int) (Ad : Option Addr) (ld cd : Nat) (Af : Option Addr) (lf cf : Nat) (Ac : Option Addr) (lc cc : Nat) (pl : Int) (z0 z1 z2 z3 z4 z5 z6 z7 : Int) (MA : Option Addr) (mn mc : Nat) (OA : Option Addr) (on oc : Nat) (b c m : Int) (w : World) (m0 : 0 ≤ m) (m1 : m < 1000000) (hz : z4 ≠ 0) :
    Calls Tryd.prog 39 #[.agg #[.int .i64 mem, .int .i64 stk, .int .i64 inp, .slice Ad ld cd, .slice Af lf cf, .slice Ac lc cc], .agg #[.int .i64 22, .int .i64 4, .int .i64 b, .int .i64 c, .int .u64 m], .agg #[.int .i64 pl, .int .u64 z0, .int .u64 z1, .int .u64 z2, .int .u64 z3, .int .u64 z4, .int .u64 z5, .int .u64 z6, .int .u64 z7, .slice MA mn mc, .slice OA on oc]] w fun e w' => e = .returned (.tuple #[.agg #[.int .i64 m, .int .u64 z0, .int .u64 z1, .int .u64 z2, .int .u64 z3, .int .u64 z4, .int .u64 z5, .int .u64 z6, .int .u64 z7, .slice MA mn mc, .slice OA on oc], .int .i64 0]) ∧ Below w.heap.size w w' := by
  have hw : IntKind.i64.wrap m = m := by rw [IntKind.wrap_i64]; omega
  have hz' : (z4 != 0) = true := by simpa using hz
  clear m0 m1 hz
  go_enter Tryd.func39, Tryd.ntmps39
  go_wp2
  refine ret_r2 (w.heap.size + 1 + 1 + 1) #[.int .i64 m, .int .u64 z0, .int .u64 z1, .int .u64 z2, .int .u64 z3, .int .u64 z4, .int .u64 z5, .int .u64 z6, .int .u64 z7, .slice MA mn mc, .slice OA on oc] (.int .i64 0) (heap_newM (by simp)) rfl rfl rfl rfl rfl ?_
  exact ⟨rfl, (((((Below.refl _ _).alloc (Nat.le_refl _) _).alloc (by simp) _).alloc (by simp; omega) _).alloc (by simp; omega) _)⟩

set_option maxRecDepth 20000 in
set_option maxHeartbeats 3200000 in
theorem rflow_by_4 (mem stk inp : Int) (Ad : Option Addr) (ld cd : Nat) (Af : Option Addr) (lf cf : Nat) (Ac : Option Addr) (lc cc : Nat) (pl : Int) (z0 z1 z2 z3 z4 z5 z6 z7 : Int) (MA : Option Addr) (mn mc : Nat) (OA : Option Addr) (on oc : Nat) (b c m : Int) (w : World) (p0 : 0 ≤ pl) (p1 : pl < 1000000) (hz : z4 = 0) :
    Calls Tryd.prog 39 #[.agg #[.int .i64 mem, .int .i64 stk, .int .i64 inp, .slice Ad ld cd, .slice Af lf cf, .slice Ac lc cc], .agg #[.int .i64 22, .int .i64 4, .int .i64 b, .int .i64 c, .int .u64 m], .agg #[.int .i64 pl, .int .u64 z0, .int .u64 z1, .int .u64 z2, .int .u64 z3, .int .u64 z4, .int .u64 z5, .int .u64 z6, .int .u64 z7, .slice MA mn mc, .slice OA on oc]] w fun e w' => e = .returned (.tuple #[.agg #[.int .i64 (pl + 1), .int .u64 z0, .int .u64 z1, .int .u64 z2, .int .u64 z3, .int .u64 z4, .int .u64 z5, .int .u64 z6, .int .u64 z7, .slice MA mn mc, .slice OA on oc], .int .i64 0]) ∧ Below w.heap.size w w' := by
  have hw : IntKind.i64.wrap (pl + 1) = pl + 1 := by rw [IntKind.wrap_i64]; omega
  have hz' : (z4 != 0) = false := by simp [hz]
  clear p0 p1 hz
  go_enter Tryd.func39, Tryd.ntmps39
  go_wp2
  refine ret_r2 (w.heap.size + 1 + 1 + 1) #[.int .i64 (pl + 1), .int .u64 z0, .int .u64 z1, .int .u64 z2, .int .u64 z3, .int .u64 z4, .int .u64 z5, .int .u64 z6, .int .u64 z7, .slice MA mn mc, .slice OA on oc] (.int .i64 0) (heap_newM (by simp)) rfl rfl rfl rfl rfl ?_
  exact ⟨rfl, (((((Below.refl _ _).alloc (Nat.le_refl _) _).alloc (by simp) _).alloc (by simp; omega) _).alloc (by simp; omega) _)⟩

set_option maxRecDepth 20000 in
set_option maxHeartbeats 3200000 in
theorem rflow_on_5 (mem stk inp : Int) (Ad : Option Addr) (ld cd : Nat) (Af : Option Addr) (lf cf : Nat) (Ac : Option Addr) (lc cc : Nat) (pl : Int) (z0 z1 z2 z3 z4 z5 z6 z7 : Int) (MA : Option Addr) (mn mc : Nat) (OA : Option Addr) (on oc : Nat) (b c m : Int) (w : World) (m0 : 0 ≤ m) (m1 : m < 1000000) (hz : z5 ≠ 0) :
    Calls Tryd.prog 39 #[.agg #[.int .i64 mem, .int .i64 stk, .int .i64 inp, .slice Ad ld cd, .slice Af lf cf, .slice Ac lc cc], .agg #[.int .i64 22, .int .i64 5, .int .i64 b, .int .i64 c, .int .u64 m], .agg #[.int .i64 pl, .int .u64 z0, .int .u64 z1, .int .u64 z2, .int .u64 z3, .int .u64 z4, .int .u64 z5, .int .u64 z6, .int .u64 z7, .slice MA mn mc, .slice OA on oc]] w fun e w' => e = .returned (.tuple #[.agg #[.int .i64 m, .int .u64 z0, .int .u64 z1, .int .u64 z2, .int .u64 z3, .int .u64 z4, .int .u64 z5, .int .u64 z6, .int .u64 z7, .slice MA mn mc, .slice OA on oc], .int .i64 0]) ∧ Below w.heap.size w w' := by
  have hw : IntKind.i64.wrap m = m := by rw [IntKind.wrap_i64]; omega
  have hz' : (z5 != 0) = true := by simpa using hz
  clear m0 m1 hz
  go_enter Tryd.func39, Tryd.ntmps39
  go_wp2
  refine ret_r2 (w.heap.size + 1 + 1 + 1) #[.int .i64 m, .int .u64 z0, .int .u64 z1, .int .u64 z2, .int .u64 z3, .int .u64 z4, .int .u64 z5, .int .u64 z6, .int .u64 z7, .slice MA mn mc, .slice OA on oc] (.int .i64 0) (heap_newM (by simp)) rfl rfl rfl rfl rfl ?_
  exact ⟨rfl, (((((Below.refl _ _).alloc (Nat.le_refl _) _).alloc (by simp) _).alloc (by simp; omega) _).alloc (by simp; omega) _)⟩

set_option maxRecDepth 20000 in
set_option maxHeartbeats 3200000 in
theorem rflow_by_5 (mem stk inp : Int) (Ad : Option Addr) (ld cd : Nat) (Af : Option Addr) (lf cf : Nat) (Ac : Option Addr) (lc cc : Nat) (pl : Int) (z0 z1 z2 z3 z4 z5 z6 z7 : Int) (MA : Option Addr) (mn mc : Nat) (OA : Option Addr) (on oc : Nat) (b c m : Int) (w : World) (p0 : 0 ≤ pl) (p1 : pl < 1000000) (hz : z5 = 0) :
    Calls Tryd.prog 39 #[.agg #[.int .i64 mem, .int .i64 stk, .int .i64 inp, .slice Ad ld cd, .slice Af lf cf, .slice Ac lc cc], .agg #[.int .i64 22, .int .i64 5, .int .i64 b, .int .i64 c, .int .u64 m], .agg #[.int .i64 pl, .int .u64 z0, .int .u64 z1, .int .u64 z2, .int .u64 z3, .int .u64 z4, .int .u64 z5, .int .u64 z6, .int .u64 z7, .slice MA mn mc, .slice OA on oc]] w fun e w' => e = .returned (.tuple #[.agg #[.int .i64 (pl + 1), .int .u64 z0, .int .u64 z1, .int .u64 z2, .int .u64 z3, .int .u64 z4, .int .u64 z5, .int .u64 z6, .int .u64 z7, .slice MA mn mc, .slice OA on oc], .int .i64 0]) ∧ Below w.heap.size w w' := by
  have hw : IntKind.i64.wrap (pl + 1) = pl + 1 := by rw [IntKind.wrap_i64]; omega
  have hz' : (z5 != 0) = false := by simp [hz]
  clear p0 p1 hz
  go_enter Tryd.func39, Tryd.ntmps39
  go_wp2
  refine ret_r2 (w.heap.size + 1 + 1 + 1) #[.int .i64 (pl + 1), .int .u64 z0, .int .u64 z1, .int .u64 z2, .int .u64 z3, .int .u64 z4, .int .u64 z5, .int .u64 z6, .int .u64 z7, .slice MA mn mc, .slice OA on oc] (.int .i64 0) (heap_newM (by simp)) rfl rfl rfl rfl rfl ?_
  exact ⟨rfl, (((((Below.refl _ _).alloc (Nat.le_refl _) _).alloc (by simp) _).alloc (by simp; omega) _).alloc (by simp; omega) _)⟩

set_option maxRecDepth 20000 in
set_option maxHeartbeats 3200000 in
theorem rflow_on_6 (mem stk inp : Int) (Ad : Option Addr) (ld cd : Nat) (Af : Option Addr) (lf cf : Nat) (Ac : Option Addr) (lc cc : Nat) (pl : Int) (z0 z1 z2 z3 z4 z5 z6 z7 : Int) (MA : Option Addr) (mn mc : Nat) (OA : Option Addr) (on oc : Nat) (b c m : Int) (w : World) (m0 : 0 ≤ m) (m1 : m < 1000000) (hz : z6 ≠ 0) :
    Calls Tryd.prog 39 #[.agg #[.int .i64 mem, .int .i64 stk, .int .i64 inp, .slice Ad ld cd, .slice Af lf cf, .slice Ac lc cc], .agg #[.int .i64 22, .int .i64 6, .int .i64 b, .int .i64 c, .int .u64 m], .agg #[.int .i64 pl, .int .u64 z0, .int .u64 z1, .int .u64 z2, .int .u64 z3, .int .u64 z4, .int .u64 z5, .int .u64 z6, .int .u64 z7, .slice MA mn mc, .slice OA on oc]] w fun e w' => e = .returned (.tuple #[.agg #[.int .i64 m, .int .u64 z0, .int .u64 z1, .int .u64 z2, .int .u64 z3, .int .u64 z4, .int .u64 z5, .int .u64 z6, .int .u64 z7, .slice MA mn mc, .slice OA on oc], .int .i64 0]) ∧ Below w.heap.size w w' := by
  have hw : IntKind.i64.wrap m = m := by rw [IntKind.wrap_i64]; omega
  have hz' : (z6 != 0) = true := by simpa using hz
  clear m0 m1 hz
  go_enter Tryd.func39, Tryd.ntmps39
  go_wp2
  refine ret_r2 (w.heap.size + 1 + 1 + 1) #[.int .i64 m, .int .u64 z0, .int .u64 z1, .int .u64 z2, .int .u64 z3, .int .u64 z4, .int .u64 z5, .int .u64 z6, .int .u64 z7, .slice MA mn mc, .slice OA on oc] (.int .i64 0) (heap_newM (by simp)) rfl rfl rfl rfl rfl ?_
  exact ⟨rfl, (((((Below.refl _ _).alloc (Nat.le_refl _) _).alloc (by simp) _).alloc (by simp; omega) _).alloc (by simp; omega) _)⟩

set_option maxRecDepth 20000 in
set_option maxHeartbeats 3200000 in
theorem rflow_by_6 (mem stk inp : Int) (Ad : Option Addr) (ld cd : Nat) (Af : Option Addr) (lf cf : Nat) (Ac : Option Addr) (lc cc : Nat) (pl : Int) (z0 z1 z2 z3 z4 z5 z6 z7 : Int) (MA : Option Addr) (mn mc : Nat) (OA : Option Addr) (on oc : Nat) (b c m : Int) (w : World) (p0 : 0 ≤ pl) (p1 : pl < 1000000) (hz : z6 = 0) :
    Calls Tryd.prog 39 #[.agg #[.int .i64 mem, .int .i64 stk, .int .i64 inp, .slice Ad ld cd, .slice Af lf cf, .slice Ac lc cc], .agg #[.int .i64 22, .int .i64 6, .int .i64 b, .int .i64 c, .int .u64 m], .agg #[.int .i64 pl, .int .u64 z0, .int .u64 z1, .int .u64 z2, .int .u64 z3, .int .u64 z4, .int .u64 z5, .int .u64 z6, .int .u64 z7, .slice MA mn mc, .slice OA on oc]] w fun e w' => e = .returned (.tuple #[.agg #[.int .i64 (pl + 1), .int .u64 z0, .int .u64 z1, .int .u64 z2, .int .u64 z3, .int .u64 z4, .int .u64 z5, .int .u64 z6, .int .u64 z7, .slice MA mn mc, .slice OA on oc], .int .i64 0]) ∧ Below w.heap.size w w' := by
  have hw : IntKind.i64.wrap (pl + 1) = pl + 1 := by rw [IntKind.wrap_i64]; omega
  have hz' : (z6 != 0) = false := by simp [hz]
  clear p0 p1 hz
  go_enter Tryd.func39, Tryd.ntmps39
  go_wp2
  refine ret_r2 (w.heap.size + 1 + 1 + 1) #[.int .i64 (pl + 1), .int .u64 z0, .int .u64 z1, .int .u64 z2, .int .u64 z3, .int .u64 z4, .int .u64 z5, .int .u64 z6, .int .u64 z7, .slice MA mn mc, .slice OA on oc] (.int .i64 0) (heap_newM (by simp)) rfl rfl rfl rfl rfl ?_
  exact ⟨rfl, (((((Below.refl _ _).alloc (Nat.le_refl _) _).alloc (by simp) _).alloc (by simp; omega) _).alloc (by simp; omega) _)⟩

set_option maxRecDepth 20000 in
set_option maxHeartbeats 3200000 in
theorem rflow_on_7 (mem stk inp : Int) (Ad : Option Addr) (ld cd : Nat) (Af : Option Addr) (lf cf : Nat) (Ac : Option Addr) (lc cc : Nat) (pl : Int) (z0 z1 z2 z3 z4 z5 z6 z7 : Int) (MA : Option Addr) (mn mc : Nat) (OA : Option Addr) (on oc : Nat) (b c m : Int) (w : World) (m0 : 0 ≤ m) (m1 : m < 1000000) (hz : z7 ≠ 0) :
    Calls Tryd.prog 39 #[.agg #[.int .i64 mem, .int .i64 stk, .int .i64 inp, .slice Ad ld cd, .slice Af lf cf, .slice Ac lc cc], .agg #[.int .i64 22, .int .i64 7, .int .i64 b, .int .i64 c, .int .u64 m], .agg #[.int .i64 pl, .int .u64 z0, .int .u64 z1, .int .u64 z2, .int .u64 z3, .int .u64 z4, .int .u64 z5, .int .u64 z6, .int .u64 z7, .slice MA mn mc, .slice OA on oc]] w fun e w' => e = .returned (.tuple #[.agg #[.int .i64 m, .int .u64 z0, .int .u64 z1, .int .u64 z2, .int .u64 z3, .int .u64 z4, .int .u64 z5, .int .u64 z6, .int .u64 z7, .slice MA mn mc, .slice OA on oc], .int .i64 0]) ∧ Below w.heap.size w w' := by
  have hw : IntKind.i64.wrap m = m := by rw [IntKind.wrap_i64]; omega
  have hz' : (z7 != 0) = true := by simpa using hz
  clear m0 m1 hz
  go_enter Tryd.func39, Tryd.ntmps39
  go_wp2
  refine ret_r2 (w.heap.size + 1 + 1 + 1) #[.int .i64 m, .int .u64 z0, .int .u64 z1, .int .u64 z2, .int .u64 z3, .int .u64 z4, .int .u64 z5, .int .u64 z6, .int .u64 z7, .slice MA mn mc, .slice OA on oc] (.int .i64 0) (heap_newM (by simp)) rfl rfl rfl rfl rfl ?_
  exact ⟨rfl, (((((Below.refl _ _).alloc (Nat.le_refl _) _).alloc (by simp) _).alloc (by simp; omega) _).alloc (by simp; omega) _)⟩

set_option maxRecDepth 20000 in
set_option maxHeartbeats 3200000 in
theorem rflow_by_7 (mem stk inp : Int) (Ad : Option Addr) (ld cd : Nat) (Af : Option Addr) (lf cf : Nat) (Ac : Option Addr) (lc cc : Nat) (pl : Int) (z0 z1 z2 z3 z4 z5 z6 z7 : Int) (MA : Option Addr) (mn mc : Nat) (OA : Option Addr) (on oc : Nat) (b c m : Int) (w : World) (p0 : 0 ≤ pl) (p1 : pl < 1000000) (hz : z7 = 0) :
    Calls Tryd.prog 39 #[.agg #[.int .i64 mem, .int .i64 stk, .int .i64 inp, .slice Ad ld cd, .slice Af lf cf, .slice Ac lc cc], .agg #[.int .i64 22, .int .i64 7, .int .i64 b, .int .i64 c, .int .u64 m], .agg #[.int .i64 pl, .int .u64 z0, .int .u64 z1, .int .u64 z2, .int .u64 z3, .int .u64 z4, .int .u64 z5, .int .u64 z6, .int .u64 z7, .slice MA mn mc, .slice OA on oc]] w fun e w' => e = .returned (.tuple #[.agg #[.int .i64 (pl + 1), .int .u64 z0, .int .u64 z1, .int .u64 z2, .int .u64 z3, .int .u64 z4, .int .u64 z5, .int .u64 z6, .int .u64 z7, .slice MA mn mc, .slice OA on oc], .int .i64 0]) ∧ Below w.heap.size w w' := by
  have hw : IntKind.i64.wrap (pl + 1) = pl + 1 := by rw [IntKind.wrap_i64]; omega
  have hz' : (z7 != 0) = false := by simp [hz]
  clear p0 p1 hz
  go_enter Tryd.func39, Tryd.ntmps39
  go_wp2
  refine ret_r2 (w.heap.size + 1 + 1 + 1) #[.int .i64 (pl + 1), .int .u64 z0, .int .u64 z1, .int .u64 z2, .int .u64 z3, .int .u64 z4, .int .u64 z5, .int .u64 z6, .int .u64 z7, .slice MA mn mc, .slice OA on oc] (.int .i64 0) (heap_newM (by simp)) rfl rfl rfl rfl rfl ?_
  exact ⟨rfl, (((((Below.refl _ _).alloc (Nat.le_refl _) _).alloc (by simp) _).alloc (by simp; omega) _).alloc (by simp; omega) _)⟩

set_option maxRecDepth 20000 in
set_option maxHeartbeats 3200000 in
theorem rflow_full (mem stk inp : Int) (Ad : Option Addr) (ld cd : Nat) (Af : Option Addr) (lf cf : Nat) (Ac : Option Addr) (lc cc : Nat) (pl : Int) (z0 z1 z2 z3 z4 z5 z6 z7 : Int) (MA : Option Addr) (mn mc : Nat) (OA : Option Addr) (on oc : Nat) (a b c m : Int) (w : World) (hf : stk ≤ (on : Int)) :
    Calls Tryd.prog 39 #[.agg #[.int .i64 mem, .int .i64 stk, .int .i64 inp, .slice Ad ld cd, .slice Af lf cf, .slice Ac lc cc], .agg #[.int .i64 23, .int .i64 a, .int .i64 b, .int .i64 c, .int .u64 m], .agg #[.int .i64 pl, .int .u64 z0, .int .u64 z1, .int .u64 z2, .int .u64 z3, .int .u64 z4, .int .u64 z5, .int .u64 z6, .int .u64 z7, .slice MA mn mc, .slice OA on oc]] w fun e w' => e = .returned (.tuple #[.agg #[.int .i64 pl, .int .u64 z0, .int .u64 z1, .int .u64 z2, .int .u64 z3, .int .u64 z4, .int .u64 z5, .int .u64 z6, .int .u64 z7, .slice MA mn mc, .slice OA on oc], .int .i64 4]) ∧ Below w.heap.size w w' := by
  go_enter Tryd.func39, Tryd.ntmps39
  go_wp2
  refine ret_r2 (w.heap.size + 1 + 1 + 1) #[.int .i64 pl, .int .u64 z0, .int .u64 z1, .int .u64 z2, .int .u64 z3, .int .u64 z4, .int .u64 z5, .int .u64 z6, .int .u64 z7, .slice MA mn mc, .slice OA on oc] (.int .i64 4) (heap_newM (by simp)) rfl rfl rfl rfl rfl ?_
  exact ⟨rfl, (((((Below.refl _ _).alloc (Nat.le_refl _) _).alloc (by simp) _).alloc (by simp; omega) _).alloc (by simp; omega) _)⟩

set_option maxRecDepth 20000 in
set_option maxHeartbeats 3200000 in
theorem rflow_empty (mem stk inp : Int) (Ad : Option Addr) (ld cd : Nat) (Af : Option Addr) (lf cf : Nat) (Ac : Option Addr) (lc cc : Nat) (pl : Int) (z0 z1 z2 z3 z4 z5 z6 z7 : Int) (MA : Option Addr) (mn mc : Nat) (OA : Option Addr) (on oc : Nat) (a b c m : Int) (w : World) (hf : on = 0) :
    Calls Tryd.prog 39 #[.agg #[.int .i64 mem, .int .i64 stk, .int .i64 inp, .slice Ad ld cd, .slice Af lf cf, .slice Ac lc cc], .agg #[.int .i64 24, .int .i64 a, .int .i64 b, .int .i64 c, .int .u64 m], .agg #[.int .i64 pl, .int .u64 z0, .int .u64 z1, .int .u64 z2, .int .u64 z3, .int .u64 z4, .int .u64 z5, .int .u64 z6, .int .u64 z7, .slice MA mn mc, .slice OA on oc]] w fun e w' => e = .returned (.tuple #[.agg #[.int .i64 pl, .int .u64 z0, .int .u64 z1, .int .u64 z2, .int .u64 z3, .int .u64 z4, .int .u64 z5, .int .u64 z6, .int .u64 z7, .slice MA mn mc, .slice OA on oc], .int .i64 1]) ∧ Below w.heap.size w w' := by
  have hz : ((on : Int) == 0) = true := by simp [hf]
  clear hf
  go_enter Tryd.func39, Tryd.ntmps39
  go_wp2
  refine ret_r2 (w.heap.size + 1 + 1 + 1) #[.int .i64 pl, .int .u64 z0, .int .u64 z1, .int .u64 z2, .int .u64 z3, .int .u64 z4, .int .u64 z5, .int .u64 z6, .int .u64 z7, .slice MA mn mc, .slice OA on oc] (.int .i64 1) (heap_newM (by simp)) rfl rfl rfl rfl rfl ?_
  exact ⟨rfl, (((((Below.refl _ _).alloc (Nat.le_refl _) _).alloc (by simp) _).alloc (by simp; omega) _).alloc (by simp; omega) _)⟩

end Go.Proofs.YtfhnigfghfmolaaDoor
