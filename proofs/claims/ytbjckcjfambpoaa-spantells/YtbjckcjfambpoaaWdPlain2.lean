/-
  More plain arithmetic for the laws on orders and shifts.
-/
import Derived.Test.YtbjckcjfambpoaaWdPlain
namespace Go.Proofs.Ytbjckcjfambpoaa.Wd
set_option linter.unusedSimpArgs false
set_option linter.unusedVariables false
set_option maxRecDepth 100000

theorem ltv_bd (x y : Int) : 0 ≤ ltv x y ∧ ltv x y ≤ 1 := by unfold ltv; split <;> omega
theorem eqv_bd (x y : Int) : 0 ≤ eqv x y ∧ eqv x y ≤ 1 := by unfold eqv; split <;> omega
theorem bit_19 (a x y : Int) : 0 ≤ app 19 a x y ∧ app 19 a x y ≤ 1 := by rw [app19]; exact eqv_bd _ _
theorem bit_20 (a x y : Int) : 0 ≤ app 20 a x y ∧ app 20 a x y ≤ 1 := by rw [app20]; exact ltv_bd _ _
theorem bit_21 (a x y : Int) : 0 ≤ app 21 a x y ∧ app 21 a x y ≤ 1 := by rw [app21]; exact ltv_bd _ _
theorem orders_1 (a x y : Int) : app 20 a x y + app 20 a y x + app 19 a x y = 1 := by
  rw [app20, app20, app19]; exact orders_less _ _
theorem orders_2 (a x y : Int) : app 21 a x y + app 21 a y x + app 19 a x y = 1 := by
  rw [app21, app21, app19, ← eqv_sgn]; exact orders_less _ _
theorem orders_3 (a x y : Int) : (app 19 a x y == 1) = (cut a x == cut a y) := by
  rw [app19, Bool.eq_iff_iff]; unfold eqv; split <;> simp_all
theorem orders_4 (a x y : Int) : (app 21 a x y == 1) = decide (sgn a x < sgn a y) := by
  rw [app21, Bool.eq_iff_iff]; unfold ltv; split <;> simp_all
theorem top_is' (a : Int) : msk a - msk a / 2 = hib a := top_is a

/-! ### doubling and halving -/
def upTo (a c : Int) (k : Nat) : Int := cut a (c * pw k)
theorem up_zero (a x : Int) : cut a x = upTo a (cut a x) 0 := by unfold upTo pw; rw [Int.pow_zero, Int.mul_one, cut_cut]
theorem up_succ (a c : Int) (k : Nat) : app 8 a (upTo a c k) (upTo a c k) = upTo a c (k + 1) := by
  rw [app8]; unfold upTo; rw [cut_add_l, cut_add_r, pw_succ]; congr 1; rw [← Int.two_mul, ← Int.mul_assoc, ← Int.mul_assoc, Int.mul_comm 2 c]
theorem half_succ (c : Int) (k : Nat) : c / pw k / 2 = c / pw (k + 1) := by
  rw [Int.ediv_ediv_of_nonneg (Int.le_of_lt (pw_pos k)), pw_succ, Int.mul_comm]
theorem div_zero (c : Int) : c = c / pw 0 := by unfold pw; rw [Int.pow_zero, Int.ediv_one]
theorem app16 (a x y : Int) : app 16 a x y = cut a (cut a x * pw (sh (cut a y))) := by simp [app]
theorem app17 (a x y : Int) : app 17 a x y = cut a x / pw (sh (cut a y)) := by simp [app]
theorem app18 (a x y : Int) : app 18 a x y = cut a (sgn a x / pw (sh (cut a y))) := by simp [app]
theorem div_pw_bd (s h : Int) (k : Nat) (h0 : -h ≤ s) (h1 : s < h) : -h ≤ s / pw k ∧ s / pw k < h := by
  have hp := pw_pos k
  by_cases hs : 0 ≤ s
  · have := div_pw_lo s k hs; have := div_pw_le s k hs; omega
  · constructor
    · rw [Int.le_ediv_iff_mul_le hp]
      have : 0 ≤ h * (pw k - 1) := Int.mul_nonneg (by omega) (by omega)
      rw [Int.mul_sub, Int.mul_one] at this
      rw [Int.neg_mul]; omega
    · rw [Int.ediv_lt_iff_lt_mul hp]
      have : 0 ≤ h * (pw k - 1) := Int.mul_nonneg (by omega) (by omega)
      rw [Int.mul_sub, Int.mul_one] at this
      omega
theorem sgn_of (a s : Int) (h0 : - hib a ≤ s) (h1 : s < hib a) : sgn a (cut a s) = s := by
  rw [sgn_cut]
  unfold sgn
  have hp := pw_hib a
  by_cases hs : 0 ≤ s
  · rw [cut_of_lt hs (by omega), if_pos h1]
  · have : cut a s = s + pw (wid a) := by
      unfold cut
      rw [show s = (s + pw (wid a)) + pw (wid a) * (-1) from by omega, Int.add_mul_emod_self_left, Int.emod_eq_of_lt (by omega) (by omega)]
      omega
    rw [this, if_neg (by omega)]; omega
theorem shifts (a x n : Int) (y : Nat) (hy : cut a n = y) (h64 : y < 64) : app 16 a x n = upTo a (cut a x) y ∧ app 17 a x n = cut a x / pw y ∧ sgn a (app 18 a x n) = sgn a x / pw y := by
  have e : sh (y : Int) = y := by unfold sh; omega
  rw [app16, app17, app18, hy, e]
  refine ⟨rfl, rfl, ?_⟩
  have := div_pw_bd (sgn a x) (hib a) y (sgn_lo a x) (sgn_lt a x)
  exact sgn_of a _ this.1 this.2
end Go.Proofs.Ytbjckcjfambpoaa.Wd
