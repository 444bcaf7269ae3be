/-
  Contracts of the runner's actions: halt, fail, set, copy, length, divide by 0, jump, branch.
-/
import Derived.Test.YthkhadbeomkihaaDoorMc1
namespace Go.Proofs.YthkhadbeomkihaaDoor
set_option maxRecDepth 100000
open Go.RowKit

set_option maxRecDepth 20000 in
theorem halt_any (g : Nat) (op a b c m : Int) (w : World) :
    Calls Tryd.prog 68 #[.pointer (some ⟨g, 0, none⟩), .agg #[.int .i64 op, .int .i64 a, .int .i64 b, .int .i64 c, .int .u64 m]] w fun e w' => e = .returned (.int .i64 1) ∧ Below w.heap.size w w' := by
  go_enter Tryd.func68, Tryd.ntmps68
  go_wp2
  go_ret
  exact ⟨rfl, Below.box _ _⟩

set_option maxRecDepth 20000 in
theorem fail_any (g : Nat) (op a b c m : Int) (w : World) :
    Calls Tryd.prog 81 #[.pointer (some ⟨g, 0, none⟩), .agg #[.int .i64 op, .int .i64 a, .int .i64 b, .int .i64 c, .int .u64 m]] w fun e w' => e = .returned (.int .i64 6) ∧ Below w.heap.size w w' := by
  go_enter Tryd.func81, Tryd.ntmps81
  go_wp2
  go_ret
  exact ⟨rfl, Below.box _ _⟩

set_option maxRecDepth 20000 in
set_option maxHeartbeats 800000 in
theorem set_any (g a : Nat) (op b c m : Int) (cs : Array Value) (w : World) (hb : RnB w g cs) (hz : cs.size = 45) (ha : a < 8) :
    Calls Tryd.prog 69 #[.pointer (some ⟨g, 0, none⟩), .agg #[.int .i64 op, .int .i64 a, .int .i64 b, .int .i64 c, .int .u64 m]] w fun e w' =>
      e = .returned (.int .i64 0) ∧ RnB w' g (cs.setIfInBounds (8 + a) (.int .u64 m)) ∧ Fr g none none w w' := by
  have HB := Lib.hid hb
  clear hb
  go_enter Tryd.func69, Tryd.ntmps69
  go_wp2_with fail
  refine (put_reg g a op b c m m cs _ (HB.out.box _) hz ha).mono ?_
  rintro e v ⟨rfl, h1, h2⟩
  go_wp2
  go_ret
  exact ⟨rfl, h1, (Fr.box _ _).trans h2⟩

set_option maxRecDepth 20000 in
set_option maxHeartbeats 800000 in
theorem copy_any (g a b : Nat) (op c m x : Int) (cs : Array Value) (w : World) (hb : RnB w g cs) (hz : cs.size = 45) (ha : a < 8) (hl : b < 8) (hx : cs[8 + b]? = some (.int .u64 x)) :
    Calls Tryd.prog 70 #[.pointer (some ⟨g, 0, none⟩), .agg #[.int .i64 op, .int .i64 a, .int .i64 b, .int .i64 c, .int .u64 m]] w fun e w' =>
      e = .returned (.int .i64 0) ∧ RnB w' g (cs.setIfInBounds (8 + a) (.int .u64 x)) ∧ Fr g none none w w' := by
  have c0 := hb.cA hx
  have hl' : (b : Int) < 8 := by omega
  have HB := Lib.hid hb
  clear hb hx
  go_enter Tryd.func70, Tryd.ntmps70
  go_wp2
  refine still_tail 10 (by kernel_rfl) (by kernel_rfl) ?_
  simp only [List.take_succ_cons, List.take_zero, List.drop_succ_cons, List.drop_zero]
  repeat still_step
  refine wpStill_nil ?_
  go_wp2_with fail
  refine (put_reg g a op b c m x cs _ (HB.out.box _).drew hz ha).mono ?_
  rintro e v ⟨rfl, h1, h2⟩
  go_wp2
  go_ret
  exact ⟨rfl, h1, (Fr.box _ _).drew.trans h2⟩

set_option maxRecDepth 20000 in
set_option maxHeartbeats 1600000 in
theorem divide_zero (g c : Nat) (op a b m : Int) (cs : Array Value) (w : World) (hb : RnB w g cs) (hk : c < 8) (hy : cs[8 + c]? = some (.int .u64 0)) :
    Calls Tryd.prog 72 #[.pointer (some ⟨g, 0, none⟩), .agg #[.int .i64 op, .int .i64 a, .int .i64 b, .int .i64 c, .int .u64 m]] w fun e w' => e = .returned (.int .i64 3) ∧ Below w.heap.size w w' := by
  have c1 := hb.cA hy
  have hk' : (c : Int) < 8 := by omega
  clear hb hy
  go_enter Tryd.func72, Tryd.ntmps72
  go_wp2
  go_quiet (fail)
  go_wp2
  go_ret
  exact ⟨rfl, below_drewN (Below.box _ _) _⟩

set_option maxRecDepth 20000 in
set_option maxHeartbeats 1600000 in
theorem length_any (g a : Nat) (op b c m : Int) (A : Option Addr) (n cap : Nat) (cs : Array Value) (w : World) (hb : RnB w g cs) (hz : cs.size = 45) (ha : a < 8) (hx : cs[6]? = some (.slice A n cap)) (hn : n ≤ maxLen) :
    Calls Tryd.prog 76 #[.pointer (some ⟨g, 0, none⟩), .agg #[.int .i64 op, .int .i64 a, .int .i64 b, .int .i64 c, .int .u64 m]] w fun e w' =>
      e = .returned (.int .i64 0) ∧ RnB w' g (cs.setIfInBounds (8 + a) (.int .u64 n)) ∧ Fr g none none w w' := by
  unfold maxLen at hn
  have c0 := hb.cA hx
  have e1 : IntKind.u64.wrap (n : Int) = n := by rw [IntKind.wrap_u64]; omega
  have HB := Lib.hid hb
  clear hb hx
  go_enter Tryd.func76, Tryd.ntmps76
  go_wp2
  refine still_tail 8 (by kernel_rfl) (by kernel_rfl) ?_
  simp only [List.take_succ_cons, List.take_zero, List.drop_succ_cons, List.drop_zero]
  repeat still_step
  refine wpStill_nil ?_
  go_wp2_with fail
  refine (put_reg g a op b c m n cs _ (HB.out.box _).drew hz ha).mono ?_
  rintro e v ⟨rfl, h1, h2⟩
  go_wp2
  go_ret
  exact ⟨rfl, h1, (Fr.box _ _).drew.trans h2⟩

set_option maxRecDepth 20000 in
set_option maxHeartbeats 1600000 in
theorem jump_any (g : Nat) (op a b c m : Int) (cs : Array Value) (w : World) (hb : RnB w g cs) (hz : cs.size = 45) (h0 : 0 ≤ m) (hm : m < 9223372036854775808) :
    Calls Tryd.prog 77 #[.pointer (some ⟨g, 0, none⟩), .agg #[.int .i64 op, .int .i64 a, .int .i64 b, .int .i64 c, .int .u64 m]] w fun e w' =>
      e = .returned (.int .i64 0) ∧ RnB w' g (cs.setIfInBounds 18 (.int .i64 m)) ∧ Fr g none none w w' := by
  obtain ⟨v, hv⟩ := RnB.ex hz (i := 18) (by omega)
  have c0 := hb.cA hv
  have cf := hb.fA 18
  have e1 : IntKind.i64.wrap m = m := by rw [IntKind.wrap_i64]; omega
  have HB := Lib.hid hb
  clear hb hv hz
  go_enter Tryd.func77, Tryd.ntmps77
  go_wp2
  go_ret
  exact ⟨rfl, (HB.out.box _).set _, ((Fr.box _ _).trans (Fr.set _ _ _))⟩

set_option maxRecDepth 20000 in
set_option maxHeartbeats 1600000 in
theorem branch_on (g a : Nat) (op b c m x : Int) (cs : Array Value) (w : World) (hb : RnB w g cs) (ha : a < 8) (hx : cs[8 + a]? = some (.int .u64 x)) (h : x = 0) :
    Calls Tryd.prog 78 #[.pointer (some ⟨g, 0, none⟩), .agg #[.int .i64 op, .int .i64 a, .int .i64 b, .int .i64 c, .int .u64 m]] w fun e w' => e = .returned (.int .i64 0) ∧ Below w.heap.size w w' := by
  have c1 := hb.cA hx
  have hk' : (a : Int) < 8 := by omega
  have e0 : (x == 0) = true := by simpa using h
  clear hb hx h
  go_enter Tryd.func78, Tryd.ntmps78
  go_wp2
  go_quiet (fail)
  go_wp2
  go_ret
  exact ⟨rfl, below_drewN (Below.box _ _) _⟩

set_option maxRecDepth 20000 in
set_option maxHeartbeats 1600000 in
theorem branch_to (g a : Nat) (op b c m x : Int) (cs : Array Value) (w : World) (hb : RnB w g cs) (hz : cs.size = 45) (ha : a < 8) (hx : cs[8 + a]? = some (.int .u64 x)) (h : x ≠ 0) (h0 : 0 ≤ m) (hm : m < 9223372036854775808) :
    Calls Tryd.prog 78 #[.pointer (some ⟨g, 0, none⟩), .agg #[.int .i64 op, .int .i64 a, .int .i64 b, .int .i64 c, .int .u64 m]] w fun e w' =>
      e = .returned (.int .i64 0) ∧ RnB w' g (cs.setIfInBounds 18 (.int .i64 m)) ∧ Fr g none none w w' := by
  have c1 := hb.cA hx
  have hk' : (a : Int) < 8 := by omega
  have e0 : (x == 0) = false := by simpa using h
  have HB := Lib.hid hb
  clear hb hx h
  go_enter Tryd.func78, Tryd.ntmps78
  go_wp2
  go_quiet (fail)
  go_wp2_with fail
  refine (jump_any g op a b c m cs _ ((HB.out.box _).drewN _) hz h0 hm).mono ?_
  rintro e v ⟨rfl, h1, h2⟩
  go_wp2
  go_ret
  exact ⟨rfl, h1, ((Fr.box _ _).drewN _).trans h2⟩
end Go.Proofs.YthkhadbeomkihaaDoor
