/-
  Contracts of the runner's actions: apply, divide, read.
-/
import Derived.Test.YthkhadbeomkihaaDoorMc2
import Derived.Test.YthkhadbeomkihaaDoorQuT
namespace Go.Proofs.YthkhadbeomkihaaDoor
set_option maxRecDepth 100000
open Go.RowKit

set_option maxRecDepth 20000 in
set_option maxHeartbeats 1600000 in
theorem apply_any (g a b c : Nat) (op m x y : Int) (cs : Array Value) (w : World) (hb : RnB w g cs) (hz : cs.size = 45) (ha : a < 8) (hl : b < 8) (hk : c < 8) (hx : cs[8 + b]? = some (.int .u64 x)) (hy : cs[8 + c]? = some (.int .u64 y)) (h0 : 0 ≤ op) (h1 : op < 26) :
    Calls Tryd.prog 71 #[.pointer (some ⟨g, 0, none⟩), .agg #[.int .i64 op, .int .i64 a, .int .i64 b, .int .i64 c, .int .u64 m]] w fun e w' =>
      e = .returned (.int .i64 0) ∧ RnB w' g (cs.setIfInBounds (8 + a) (.int .u64 (Wd.app (op + 5) 64 x y))) ∧ Fr g none none w w' := by
  have c0 := hb.cA hx
  have c1 := hb.cA hy
  have hl' : (b : Int) < 8 := by omega
  have hk' : (c : Int) < 8 := by omega
  have HB := Lib.hid hb
  clear hb hx hy
  go_enter Tryd.func71, Tryd.ntmps71
  go_wp2
  refine quiet_tail 22 (by kernel_rfl) (by kernel_rfl) ?_
  simp only [List.take_succ_cons, List.take_zero, List.drop_succ_cons, List.drop_zero]
  repeat (quiet_step ((go_at_call 90; exact Calls.quiet_of (app_any _ _ _ _ _))))
  refine wpQuiet_nil ?_
  intro _ hw'
  obtain ⟨nq, hw''⟩ := hw'
  subst hw''
  go_wp2_with fail
  refine (put_reg g a op b c m _ cs _ ((HB.out.box _).drewN nq) hz ha).mono ?_
  rintro e v ⟨rfl, h2, h3⟩
  go_wp2
  go_ret
  exact ⟨rfl, h2, ((Fr.box _ _).drewN nq).trans h3⟩

set_option maxRecDepth 20000 in
set_option maxHeartbeats 1600000 in
theorem divide_any (g a b c : Nat) (op m x y : Int) (cs : Array Value) (w : World) (hb : RnB w g cs) (hz : cs.size = 45) (ha : a < 8) (hl : b < 8) (hk : c < 8) (hx : cs[8 + b]? = some (.int .u64 x)) (hy : cs[8 + c]? = some (.int .u64 y)) (h0 : 0 ≤ op) (h1 : op < 26) (hn : y ≠ 0) :
    Calls Tryd.prog 72 #[.pointer (some ⟨g, 0, none⟩), .agg #[.int .i64 op, .int .i64 a, .int .i64 b, .int .i64 c, .int .u64 m]] w fun e w' =>
      e = .returned (.int .i64 0) ∧ RnB w' g (cs.setIfInBounds (8 + a) (.int .u64 (Wd.app (op + 5) 64 x y))) ∧ Fr g none none w w' := by
  have c1 := hb.cA hy
  have hk' : (c : Int) < 8 := by omega
  have e0 : (y == 0) = false := by simpa using hn
  have HB := Lib.hid hb
  clear hb hn
  go_enter Tryd.func72, Tryd.ntmps72
  go_wp2
  go_quiet (fail)
  go_wp2_with fail
  refine (apply_any g a b c op m x y cs _ ((HB.out.box _).drewN nq) hz ha hl hk hx hy h0 h1).mono ?_
  rintro e v ⟨rfl, h2, h3⟩
  go_wp2
  go_ret
  exact ⟨rfl, h2, ((Fr.box _ _).drewN nq).trans h3⟩

set_option maxRecDepth 20000 in
set_option maxHeartbeats 1600000 in
theorem read_out (g b : Nat) (op a c m x : Int) (cs : Array Value) (w : World) (A : Option Addr) (n cap : Nat) (hb : RnB w g cs) (hl : b < 8) (hx : cs[8 + b]? = some (.int .u64 x)) (hi : cs[6]? = some (.slice A n cap)) (hn : n ≤ maxLen) (h : ¬ (x + m) % 18446744073709551616 < n) :
    Calls Tryd.prog 75 #[.pointer (some ⟨g, 0, none⟩), .agg #[.int .i64 op, .int .i64 a, .int .i64 b, .int .i64 c, .int .u64 m]] w fun e w' => e = .returned (.int .i64 5) ∧ Below w.heap.size w w' := by
  unfold maxLen at hn
  have e1 : IntKind.u64.wrap (n : Int) = n := by rw [IntKind.wrap_u64]; omega
  have e2 : IntKind.u64.wrap (x + m) = (x + m) % 18446744073709551616 := IntKind.wrap_u64 _
  have c6 := (hb.box (.cells #[.int .i64 op, .int .i64 a, .int .i64 b, .int .i64 c, .int .u64 m] 59)).c 6
  rw [hi] at c6
  have HB := Lib.hid hb
  have HI := Lib.hid hi
  clear hb hi c6
  generalize (x + m) % 18446744073709551616 = y at *
  have hy : (n : Int) ≤ y := by omega
  have E2 := Lib.hid e2
  clear e2 h
  go_enter Tryd.func75, Tryd.ntmps75
  go_wp2_with fail
  refine (address_any g b op a c m x cs _ (HB.out.box _) hx hl).mono ?_
  rintro e v ⟨rfl, hbv⟩
  rw [E2.out]
  have c6 : v.cell? ⟨g, 6, none⟩ = some (.slice A n cap) := by rw [((HB.out.box _).below hbv).c 6]; exact HI.out
  have HV := Lib.hid hbv
  clear hbv
  go_wp2
  go_ret
  exact ⟨rfl, (Below.box _ _).trans (HV.out.mono (by simp))⟩

set_option maxRecDepth 20000 in
set_option maxHeartbeats 1600000 in
theorem read_in (g a b : Nat) (op c m x z : Int) (cs : Array Value) (w : World) (ib io n cap : Nat) (hb : RnB w g cs) (hz : cs.size = 45) (ha : a < 8) (hl : b < 8) (hx : cs[8 + b]? = some (.int .u64 x)) (hi : cs[6]? = some (.slice (some ⟨ib, io, none⟩) n cap)) (hn : n ≤ maxLen)
    (k : Nat) (hk : (x + m) % 18446744073709551616 = k) (hkn : k < n) (hib : ib < w.heap.size) (hcell : w.cell? ⟨ib, io + k, none⟩ = some (.int .u8 z)) (z0 : 0 ≤ z) (z1 : z ≤ 255) :
    Calls Tryd.prog 75 #[.pointer (some ⟨g, 0, none⟩), .agg #[.int .i64 op, .int .i64 a, .int .i64 b, .int .i64 c, .int .u64 m]] w fun e w' =>
      e = .returned (.int .i64 0) ∧ RnB w' g (cs.setIfInBounds (8 + a) (.int .u64 z)) ∧ Fr g none none w w' := by
  unfold maxLen at hn
  have e1 : IntKind.u64.wrap (n : Int) = n := by rw [IntKind.wrap_u64]; omega
  have e2 : IntKind.u64.wrap (x + m) = (k : Int) := by rw [IntKind.wrap_u64]; exact hk
  have e3 : IntKind.u64.wrap z = z := by rw [IntKind.wrap_u64]; omega
  have hkn' : ¬ (n : Int) ≤ k := by omega
  have hkn2 : (k : Int) < n := by omega
  have HB := Lib.hid hb
  have HI := Lib.hid hi
  have HX := Lib.hid hx
  have HC := Lib.hid hcell
  have HIB := Lib.hid hib
  have E2 := Lib.hid e2
  clear hb hi hcell hib e2 hk hx
  go_enter Tryd.func75, Tryd.ntmps75
  go_wp2_with fail
  refine (address_any g b op a c m x cs _ (HB.out.box _) HX.out hl).mono ?_
  rintro e v ⟨rfl, hbv⟩
  rw [E2.out]
  have HBV := Lib.hid ((HB.out.box _).below hbv)
  have c6 : v.cell? ⟨g, 6, none⟩ = some (.slice (some ⟨ib, io, none⟩) n cap) := by rw [HBV.out.c 6]; exact HI.out
  have cz : v.cell? ⟨ib, io + k, none⟩ = some (.int .u8 z) := (hbv.cell (p := ⟨ib, io + k, none⟩) (by simp; have := HIB.out; omega)).trans (((Below.box w _).cell (p := ⟨ib, io + k, none⟩) HIB.out).trans HC.out)
  have cb : v.cell? ⟨w.heap.size, 0, none⟩ = some (.int .i64 op) := cells_below hbv (by simp) (by simp)
  have cb1 : v.cell? ⟨w.heap.size, 1, none⟩ = some (.int .i64 a) := cells_below hbv (by simp) (by simp)
  have cb2 : v.cell? ⟨w.heap.size, 2, none⟩ = some (.int .i64 b) := cells_below hbv (by simp) (by simp)
  have cb3 : v.cell? ⟨w.heap.size, 3, none⟩ = some (.int .i64 c) := cells_below hbv (by simp) (by simp)
  have cb4 : v.cell? ⟨w.heap.size, 4, none⟩ = some (.int .u64 m) := cells_below hbv (by simp) (by simp)
  have HV := Lib.hid hbv
  clear hbv
  go_wp2
  refine still_tail 10 (by kernel_rfl) (by kernel_rfl) ?_
  simp only [List.take_succ_cons, List.take_zero, List.drop_succ_cons, List.drop_zero]
  repeat still_step
  refine wpStill_nil ?_
  go_wp2_with fail
  refine (put_reg g a op b c m z cs _ HBV.out.drew hz ha).mono ?_
  rintro e v2 ⟨rfl, h1, h2⟩
  go_wp2
  go_ret
  exact ⟨rfl, h1, (Fr.of_below ((Below.box _ _).trans (HV.out.mono (by simp)))).drew.trans h2⟩

set_option maxRecDepth 20000 in
set_option maxHeartbeats 1600000 in
theorem back_empty (g : Nat) (op a b c m : Int) (A : Option Addr) (cap : Nat) (cs : Array Value) (w : World) (hb : RnB w g cs) (ho : cs[17]? = some (.slice A 0 cap)) :
    Calls Tryd.prog 80 #[.pointer (some ⟨g, 0, none⟩), .agg #[.int .i64 op, .int .i64 a, .int .i64 b, .int .i64 c, .int .u64 m]] w fun e w' => e = .returned (.int .i64 1) ∧ Below w.heap.size w w' := by
  have c0 := hb.cA ho
  clear hb ho
  go_enter Tryd.func80, Tryd.ntmps80
  go_wp2
  go_ret
  exact ⟨rfl, Below.box _ _⟩

set_option maxRecDepth 20000 in
set_option maxHeartbeats 1600000 in
theorem back_to (g o n cap : Nat) (op a b c m z : Int) (cs : Array Value) (w : World) (hb : RnB w g cs) (hz : cs.size = 45) (ho : cs[17]? = some (.slice (some ⟨o, 0, none⟩) (n + 1) cap)) (hcap : n + 1 ≤ cap) (hm : cap ≤ maxLen) (hl : o < w.heap.size) (hcell : w.cell? ⟨o, n, none⟩ = some (.int .i64 z)) (hog : o ≠ g) :
    Calls Tryd.prog 80 #[.pointer (some ⟨g, 0, none⟩), .agg #[.int .i64 op, .int .i64 a, .int .i64 b, .int .i64 c, .int .u64 m]] w fun e w' =>
      e = .returned (.int .i64 0) ∧ RnB w' g ((cs.setIfInBounds 18 (.int .i64 z)).setIfInBounds 17 (.slice (some ⟨o, 0, none⟩) n cap)) ∧ Fr g none none w w' := by
  unfold maxLen at hm
  obtain ⟨v, hv⟩ := RnB.ex hz (i := 18) (by omega)
  have c0 := hb.cA ho
  have c1 := hb.cA hv
  have cf := hb.fA 18
  have cf2 := hb.fA 17
  have cz : ∀ x, (w.alloc x).cell? ⟨o, n, none⟩ = some (.int .i64 z) := fun x => ((Below.box w x).cell (p := ⟨o, n, none⟩) hl).trans hcell
  have HB := Lib.hid hb
  clear hb hv ho hcell
  go_enter Tryd.func80, Tryd.ntmps80
  go_wp2
  go_ret
  exact ⟨rfl, ((HB.out.box _).set _).set _, ((Fr.box _ _).trans (Fr.set _ _ _)).trans (Fr.set _ _ _)⟩

set_option maxRecDepth 20000 in
set_option maxHeartbeats 1600000 in
theorem call_full (g : Nat) (op a b c m stk : Int) (A : Option Addr) (n cap : Nat) (cs : Array Value) (w : World) (hb : RnB w g cs) (ho : cs[17]? = some (.slice A n cap)) (hs : cs[1]? = some (.int .i64 stk)) (hn : n ≤ maxLen) (h : stk ≤ n) :
    Calls Tryd.prog 79 #[.pointer (some ⟨g, 0, none⟩), .agg #[.int .i64 op, .int .i64 a, .int .i64 b, .int .i64 c, .int .u64 m]] w fun e w' => e = .returned (.int .i64 4) ∧ Below w.heap.size w w' := by
  unfold maxLen at hn
  have c0 := hb.cA ho
  have c1 := hb.cA hs
  clear hb ho hs
  go_enter Tryd.func79, Tryd.ntmps79
  go_wp2
  go_quiet (fail)
  go_wp2
  go_ret
  exact ⟨rfl, below_drewN (Below.box _ _) _⟩
end Go.Proofs.YthkhadbeomkihaaDoor
