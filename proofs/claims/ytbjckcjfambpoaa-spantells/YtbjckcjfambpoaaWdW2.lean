/-
  The contract of layer 1's Apply.
-/
import Derived.Test.YtbjckcjfambpoaaWdW1
namespace Go.Proofs.Ytbjckcjfambpoaa
set_option linter.unusedSimpArgs false
set_option linter.unusedVariables false
set_option maxRecDepth 100000
open Go.RowKit

set_option maxHeartbeats 400000 in
theorem app_not (a x y : Int) (w : World) :
    Calls Try.prog 19 #[.int .i64 5, .int .i64 a, .int .u64 x, .int .u64 y] w fun e w' => e = .returned (.int .u64 (Wd.app 5 a x y)) ∧ ∃ n, w' = w.drewN n := by
  go_enter Try.func19, Try.ntmps19
  go_wp2_with fail
  refine (cut_any _ _ _).mono ?_; rintro e w' ⟨rfl, rfl⟩
  go_wp2_with fail
  refine (cut_any _ _ _).mono ?_; rintro e w' ⟨rfl, rfl⟩
  go_wp2_with fail
  refine (cut_any _ _ _).mono ?_; rintro e w' ⟨rfl, rfl⟩
  go_wp2
  go_ret
  exact ⟨wret_int (Wd.not_code a x y), 0, rfl⟩

set_option maxHeartbeats 400000 in
theorem app_add (a x y : Int) (w : World) :
    Calls Try.prog 19 #[.int .i64 8, .int .i64 a, .int .u64 x, .int .u64 y] w fun e w' => e = .returned (.int .u64 (Wd.app 8 a x y)) ∧ ∃ n, w' = w.drewN n := by
  go_enter Try.func19, Try.ntmps19
  go_wp2_with fail
  refine (cut_any _ _ _).mono ?_; rintro e w' ⟨rfl, rfl⟩
  go_wp2_with fail
  refine (cut_any _ _ _).mono ?_; rintro e w' ⟨rfl, rfl⟩
  go_wp2_with fail
  refine (cut_any _ _ _).mono ?_; rintro e w' ⟨rfl, rfl⟩
  go_wp2
  go_ret
  exact ⟨wret_int (Wd.add_code a x y), 0, rfl⟩

set_option maxHeartbeats 400000 in
theorem app_sub (a x y : Int) (w : World) :
    Calls Try.prog 19 #[.int .i64 9, .int .i64 a, .int .u64 x, .int .u64 y] w fun e w' => e = .returned (.int .u64 (Wd.app 9 a x y)) ∧ ∃ n, w' = w.drewN n := by
  go_enter Try.func19, Try.ntmps19
  go_wp2_with fail
  refine (cut_any _ _ _).mono ?_; rintro e w' ⟨rfl, rfl⟩
  go_wp2_with fail
  refine (cut_any _ _ _).mono ?_; rintro e w' ⟨rfl, rfl⟩
  go_wp2_with fail
  refine (cut_any _ _ _).mono ?_; rintro e w' ⟨rfl, rfl⟩
  go_wp2
  go_ret
  exact ⟨wret_int (Wd.sub_code a x y), 0, rfl⟩

set_option maxHeartbeats 400000 in
theorem app_mul (a x y : Int) (w : World) :
    Calls Try.prog 19 #[.int .i64 10, .int .i64 a, .int .u64 x, .int .u64 y] w fun e w' => e = .returned (.int .u64 (Wd.app 10 a x y)) ∧ ∃ n, w' = w.drewN n := by
  go_enter Try.func19, Try.ntmps19
  go_wp2_with fail
  refine (cut_any _ _ _).mono ?_; rintro e w' ⟨rfl, rfl⟩
  go_wp2_with fail
  refine (cut_any _ _ _).mono ?_; rintro e w' ⟨rfl, rfl⟩
  go_wp2_with fail
  refine (cut_any _ _ _).mono ?_; rintro e w' ⟨rfl, rfl⟩
  go_wp2
  go_ret
  exact ⟨wret_int (Wd.mul_code a x y), 0, rfl⟩

set_option maxHeartbeats 400000 in
theorem app_and (a x y : Int) (w : World) :
    Calls Try.prog 19 #[.int .i64 13, .int .i64 a, .int .u64 x, .int .u64 y] w fun e w' => e = .returned (.int .u64 (Wd.app 13 a x y)) ∧ ∃ n, w' = w.drewN n := by
  go_enter Try.func19, Try.ntmps19
  go_wp2_with fail
  refine (cut_any _ _ _).mono ?_; rintro e w' ⟨rfl, rfl⟩
  go_wp2_with fail
  refine (cut_any _ _ _).mono ?_; rintro e w' ⟨rfl, rfl⟩
  go_wp2
  go_ret
  exact ⟨wret_int (Wd.and_code a x y), 0, rfl⟩

set_option maxHeartbeats 400000 in
theorem app_or (a x y : Int) (w : World) :
    Calls Try.prog 19 #[.int .i64 14, .int .i64 a, .int .u64 x, .int .u64 y] w fun e w' => e = .returned (.int .u64 (Wd.app 14 a x y)) ∧ ∃ n, w' = w.drewN n := by
  go_enter Try.func19, Try.ntmps19
  go_wp2_with fail
  refine (cut_any _ _ _).mono ?_; rintro e w' ⟨rfl, rfl⟩
  go_wp2_with fail
  refine (cut_any _ _ _).mono ?_; rintro e w' ⟨rfl, rfl⟩
  go_wp2
  go_ret
  exact ⟨wret_int (Wd.or_code a x y), 0, rfl⟩

set_option maxHeartbeats 400000 in
theorem app_xor (a x y : Int) (w : World) :
    Calls Try.prog 19 #[.int .i64 15, .int .i64 a, .int .u64 x, .int .u64 y] w fun e w' => e = .returned (.int .u64 (Wd.app 15 a x y)) ∧ ∃ n, w' = w.drewN n := by
  go_enter Try.func19, Try.ntmps19
  go_wp2_with fail
  refine (cut_any _ _ _).mono ?_; rintro e w' ⟨rfl, rfl⟩
  go_wp2_with fail
  refine (cut_any _ _ _).mono ?_; rintro e w' ⟨rfl, rfl⟩
  go_wp2
  go_ret
  exact ⟨wret_int (Wd.xor_code a x y), 0, rfl⟩

set_option maxHeartbeats 400000 in
theorem app_div (a x y : Int) (w : World) :
    Calls Try.prog 19 #[.int .i64 11, .int .i64 a, .int .u64 x, .int .u64 y] w fun e w' => e = .returned (.int .u64 (Wd.app 11 a x y)) ∧ ∃ n, w' = w.drewN n := by
  go_enter Try.func19, Try.ntmps19
  go_wp2_with fail
  refine (cut_any _ _ _).mono ?_; rintro e w' ⟨rfl, rfl⟩
  go_wp2_with fail
  refine (cut_any _ _ _).mono ?_; rintro e w' ⟨rfl, rfl⟩
  go_wp2_with fail
  refine (div_any 11 a (Wd.cut a x) (Wd.cut a y) (Wd.cut_lo a x) (Wd.cut_hi a x) (Wd.cut_lo a y) (Wd.cut_hi a y) rfl _).mono ?_; rintro e w' ⟨rfl, n, rfl⟩
  go_wp2
  go_ret
  exact ⟨wret_int (by simp [Wd.app]), n, rfl⟩

set_option maxHeartbeats 400000 in
theorem app_rem (a x y : Int) (w : World) :
    Calls Try.prog 19 #[.int .i64 12, .int .i64 a, .int .u64 x, .int .u64 y] w fun e w' => e = .returned (.int .u64 (Wd.app 12 a x y)) ∧ ∃ n, w' = w.drewN n := by
  go_enter Try.func19, Try.ntmps19
  go_wp2_with fail
  refine (cut_any _ _ _).mono ?_; rintro e w' ⟨rfl, rfl⟩
  go_wp2_with fail
  refine (cut_any _ _ _).mono ?_; rintro e w' ⟨rfl, rfl⟩
  go_wp2_with fail
  refine (rem_any a (Wd.cut a x) (Wd.cut a y) (Wd.cut_lo a x) (Wd.cut_hi a x) (Wd.cut_lo a y) (Wd.cut_hi a y) _).mono ?_; rintro e w' ⟨rfl, n, rfl⟩
  go_wp2
  go_ret
  exact ⟨wret_int (by simp [Wd.app]), n, rfl⟩

set_option maxHeartbeats 400000 in
theorem app_shl (a x y : Int) (w : World) :
    Calls Try.prog 19 #[.int .i64 16, .int .i64 a, .int .u64 x, .int .u64 y] w fun e w' => e = .returned (.int .u64 (Wd.app 16 a x y)) ∧ ∃ n, w' = w.drewN n := by
  go_enter Try.func19, Try.ntmps19
  go_wp2_with fail
  refine (cut_any _ _ _).mono ?_; rintro e w' ⟨rfl, rfl⟩
  go_wp2_with fail
  refine (cut_any _ _ _).mono ?_; rintro e w' ⟨rfl, rfl⟩
  go_wp2_with fail
  refine (shl_any a (Wd.cut a x) (Wd.cut a y) (Wd.cut_lo a y) _).mono ?_; rintro e w' ⟨rfl, rfl⟩
  go_wp2
  go_ret
  exact ⟨wret_int (by simp [Wd.app]), 0, rfl⟩

set_option maxHeartbeats 400000 in
theorem app_shr (a x y : Int) (w : World) :
    Calls Try.prog 19 #[.int .i64 17, .int .i64 a, .int .u64 x, .int .u64 y] w fun e w' => e = .returned (.int .u64 (Wd.app 17 a x y)) ∧ ∃ n, w' = w.drewN n := by
  go_enter Try.func19, Try.ntmps19
  go_wp2_with fail
  refine (cut_any _ _ _).mono ?_; rintro e w' ⟨rfl, rfl⟩
  go_wp2_with fail
  refine (cut_any _ _ _).mono ?_; rintro e w' ⟨rfl, rfl⟩
  go_wp2_with fail
  refine (shr_any a (Wd.cut a x) (Wd.cut a y) (Wd.cut_lo a x) (Wd.cut_lt a x) (Wd.cut_lo a y) _).mono ?_; rintro e w' ⟨rfl, rfl⟩
  go_wp2
  go_ret
  exact ⟨wret_int (by simp [Wd.app]), 0, rfl⟩

set_option maxHeartbeats 400000 in
theorem app_sar (a x y : Int) (w : World) :
    Calls Try.prog 19 #[.int .i64 18, .int .i64 a, .int .u64 x, .int .u64 y] w fun e w' => e = .returned (.int .u64 (Wd.app 18 a x y)) ∧ ∃ n, w' = w.drewN n := by
  go_enter Try.func19, Try.ntmps19
  go_wp2_with fail
  refine (cut_any _ _ _).mono ?_; rintro e w' ⟨rfl, rfl⟩
  go_wp2_with fail
  refine (cut_any _ _ _).mono ?_; rintro e w' ⟨rfl, rfl⟩
  go_wp2_with fail
  refine (sar_any a (Wd.cut a x) (Wd.cut a y) (Wd.cut_lo a x) (Wd.cut_lt a x) (Wd.cut_lo a y) _).mono ?_; rintro e w' ⟨rfl, rfl⟩
  go_wp2
  go_ret
  exact ⟨wret_int (by simp [Wd.app, Wd.sgn_cut]), 0, rfl⟩

set_option maxHeartbeats 400000 in
theorem app_eq (a x y : Int) (w : World) :
    Calls Try.prog 19 #[.int .i64 19, .int .i64 a, .int .u64 x, .int .u64 y] w fun e w' => e = .returned (.int .u64 (Wd.app 19 a x y)) ∧ ∃ n, w' = w.drewN n := by
  go_enter Try.func19, Try.ntmps19
  go_wp2_with fail
  refine (cut_any _ _ _).mono ?_; rintro e w' ⟨rfl, rfl⟩
  go_wp2_with fail
  refine (cut_any _ _ _).mono ?_; rintro e w' ⟨rfl, rfl⟩
  go_wp2_with fail
  refine (eq_any a (Wd.cut a x) (Wd.cut a y) _).mono ?_; rintro e w' ⟨rfl, rfl⟩
  go_wp2
  go_ret
  exact ⟨wret_int (by simp [Wd.app]), 0, rfl⟩

set_option maxHeartbeats 400000 in
theorem app_less (a x y : Int) (w : World) :
    Calls Try.prog 19 #[.int .i64 20, .int .i64 a, .int .u64 x, .int .u64 y] w fun e w' => e = .returned (.int .u64 (Wd.app 20 a x y)) ∧ ∃ n, w' = w.drewN n := by
  go_enter Try.func19, Try.ntmps19
  go_wp2_with fail
  refine (cut_any _ _ _).mono ?_; rintro e w' ⟨rfl, rfl⟩
  go_wp2_with fail
  refine (cut_any _ _ _).mono ?_; rintro e w' ⟨rfl, rfl⟩
  go_wp2_with fail
  refine (less_any a (Wd.cut a x) (Wd.cut a y) _).mono ?_; rintro e w' ⟨rfl, rfl⟩
  go_wp2
  go_ret
  exact ⟨wret_int (by simp [Wd.app]), 0, rfl⟩

set_option maxHeartbeats 400000 in
theorem app_below (a x y : Int) (w : World) :
    Calls Try.prog 19 #[.int .i64 21, .int .i64 a, .int .u64 x, .int .u64 y] w fun e w' => e = .returned (.int .u64 (Wd.app 21 a x y)) ∧ ∃ n, w' = w.drewN n := by
  go_enter Try.func19, Try.ntmps19
  go_wp2_with fail
  refine (cut_any _ _ _).mono ?_; rintro e w' ⟨rfl, rfl⟩
  go_wp2_with fail
  refine (cut_any _ _ _).mono ?_; rintro e w' ⟨rfl, rfl⟩
  go_wp2_with fail
  refine (below_any a (Wd.cut a x) (Wd.cut a y) (Wd.cut_lo a x) (Wd.cut_lt a x) (Wd.cut_lo a y) (Wd.cut_lt a y) _).mono ?_; rintro e w' ⟨rfl, rfl⟩
  go_wp2
  go_ret
  exact ⟨wret_int (by simp [Wd.app, Wd.sgn_cut]), 0, rfl⟩

set_option maxHeartbeats 400000 in
theorem app_none (op a x y : Int) (h5 : (op == 5) = false) (h8 : (op == 8) = false) (h9 : (op == 9) = false) (h10 : (op == 10) = false) (h11 : (op == 11) = false) (h12 : (op == 12) = false) (h13 : (op == 13) = false) (h14 : (op == 14) = false) (h15 : (op == 15) = false) (h16 : (op == 16) = false) (h17 : (op == 17) = false) (h18 : (op == 18) = false) (h19 : (op == 19) = false) (h20 : (op == 20) = false) (h21 : (op == 21) = false) (w : World) :
    Calls Try.prog 19 #[.int .i64 op, .int .i64 a, .int .u64 x, .int .u64 y] w fun e w' => e = .returned (.int .u64 0) ∧ ∃ n, w' = w.drewN n := by
  go_enter Try.func19, Try.ntmps19
  go_wp2_with fail
  refine (cut_any _ _ _).mono ?_; rintro e w' ⟨rfl, rfl⟩
  go_wp2_with fail
  refine (cut_any _ _ _).mono ?_; rintro e w' ⟨rfl, rfl⟩
  go_wp2
  go_ret
  exact ⟨rfl, 0, rfl⟩

theorem app_any (op a x y : Int) (w : World) :
    Calls Try.prog 19 #[.int .i64 op, .int .i64 a, .int .u64 x, .int .u64 y] w fun e w' => e = .returned (.int .u64 (Wd.app op a x y)) ∧ ∃ n, w' = w.drewN n := by
  by_cases h5 : op = 5
  · subst h5; exact app_not a x y w
  by_cases h8 : op = 8
  · subst h8; exact app_add a x y w
  by_cases h9 : op = 9
  · subst h9; exact app_sub a x y w
  by_cases h10 : op = 10
  · subst h10; exact app_mul a x y w
  by_cases h11 : op = 11
  · subst h11; exact app_div a x y w
  by_cases h12 : op = 12
  · subst h12; exact app_rem a x y w
  by_cases h13 : op = 13
  · subst h13; exact app_and a x y w
  by_cases h14 : op = 14
  · subst h14; exact app_or a x y w
  by_cases h15 : op = 15
  · subst h15; exact app_xor a x y w
  by_cases h16 : op = 16
  · subst h16; exact app_shl a x y w
  by_cases h17 : op = 17
  · subst h17; exact app_shr a x y w
  by_cases h18 : op = 18
  · subst h18; exact app_sar a x y w
  by_cases h19 : op = 19
  · subst h19; exact app_eq a x y w
  by_cases h20 : op = 20
  · subst h20; exact app_less a x y w
  by_cases h21 : op = 21
  · subst h21; exact app_below a x y w
  have e : Wd.app op a x y = 0 := by simp [Wd.app, h5, h8, h9, h10, h11, h12, h13, h14, h15, h16, h17, h18, h19, h20, h21]
  rw [e]
  exact app_none op a x y (beq_eq_false_iff_ne.2 h5) (beq_eq_false_iff_ne.2 h8) (beq_eq_false_iff_ne.2 h9) (beq_eq_false_iff_ne.2 h10) (beq_eq_false_iff_ne.2 h11) (beq_eq_false_iff_ne.2 h12) (beq_eq_false_iff_ne.2 h13) (beq_eq_false_iff_ne.2 h14) (beq_eq_false_iff_ne.2 h15) (beq_eq_false_iff_ne.2 h16) (beq_eq_false_iff_ne.2 h17) (beq_eq_false_iff_ne.2 h18) (beq_eq_false_iff_ne.2 h19) (beq_eq_false_iff_ne.2 h20) (beq_eq_false_iff_ne.2 h21) w
end Go.Proofs.Ytbjckcjfambpoaa
