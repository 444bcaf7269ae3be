/-
  Layer 11: the closures of the rules.
-/
import Derived.Test.YtbjckcjfambpoaaSnW6
import Derived.Test.YtbjckcjfambpoaaSnLn
namespace Go.Proofs.Ytbjckcjfambpoaa
set_option linter.unusedSimpArgs false
set_option linter.unusedVariables false
open Go.RowKit Go.Maps
set_option maxRecDepth 100000

theorem Sn.ret_n {a b : Int} (h : a = b) : Ending.returned (.int .u64 a) = .returned (.int .u64 b) := by rw [h]
abbrev Sn.pt (b : Nat) : Value := .pointer (some ⟨b, 0, none⟩)
set_option maxHeartbeats 1600000 in
theorem isCut1_any (p q : Int) (b : Nat) (m : Int) (p0 : 0 ≤ p) (p1 : p ≤ m) (m1 : m < 18446744073709551616) (w : World) (hc : w.cell? ⟨b, 0, none⟩ = some (.int .u64 m)) :
    Calls Try.prog 44 #[.int .u64 p, .int .u64 q, Sn.pt b] w fun e w' => e = .returned (.bool (decide (q > m - p))) ∧ w = w' := by
  go_enter Try.func44, Try.ntmps44
  go_wp2
  all_goals
    go_ret
    exact ⟨rfl, rfl⟩

set_option maxHeartbeats 1600000 in
theorem addc_any (p q : Int) (b : Nat) (a : Int) (w : World) (hc : w.cell? ⟨b, 0, none⟩ = some (.int .i64 a)) :
    Calls Try.prog 46 #[.int .u64 p, .int .u64 q, Sn.pt b] w fun e w' => e = .returned (.int .u64 (Wd.cut a (p + q))) ∧ w = w' := by
  go_enter Try.func46, Try.ntmps46
  go_wp2_with (go_at_call 20; refine (cut_any _ _ _).mono ?_; rintro e w9 ⟨rfl, rfl⟩)
  all_goals
    go_ret
    exact ⟨Sn.ret_n (Wd.cut_wrap _ _), rfl⟩

set_option maxHeartbeats 1600000 in
theorem isCut2_any (p q : Int)  (w : World) :
    Calls Try.prog 47 #[.int .u64 p, .int .u64 q] w fun e w' => e = .returned (.bool (decide (q > p))) ∧ w = w' := by
  go_enter Try.func47, Try.ntmps47
  go_wp2
  all_goals
    go_ret
    exact ⟨rfl, rfl⟩

set_option maxHeartbeats 1600000 in
theorem subc_any (p q : Int) (b : Nat) (a : Int) (w : World) (hc : w.cell? ⟨b, 0, none⟩ = some (.int .i64 a)) :
    Calls Try.prog 49 #[.int .u64 p, .int .u64 q, Sn.pt b] w fun e w' => e = .returned (.int .u64 (Wd.cut a (p - q))) ∧ w = w' := by
  go_enter Try.func49, Try.ntmps49
  go_wp2_with (go_at_call 20; refine (cut_any _ _ _).mono ?_; rintro e w9 ⟨rfl, rfl⟩)
  all_goals
    go_ret
    exact ⟨Sn.ret_n (Wd.cut_wrap _ _), rfl⟩

set_option maxHeartbeats 1600000 in
theorem mulc_any (p q : Int) (h0 : 0 ≤ p * q) (h1 : p * q < 18446744073709551616) (w : World) :
    Calls Try.prog 51 #[.int .u64 p, .int .u64 q] w fun e w' => e = .returned (.int .u64 (p * q)) ∧ w = w' := by
  go_enter Try.func51, Try.ntmps51
  go_wp2
  all_goals
    go_ret
    exact ⟨rfl, rfl⟩

set_option maxHeartbeats 1600000 in
theorem divc_any (p q : Int) (p0 : 0 ≤ p) (p1 : p < 18446744073709551616) (q0 : 0 ≤ q) (q1 : q < 18446744073709551616) (hq : q ≠ 0) (w : World) :
    Calls Try.prog 52 #[.int .u64 p, .int .u64 q] w fun e w' => e = .returned (.int .u64 (p / q)) ∧ w = w' := by
  go_enter Try.func52, Try.ntmps52
  go_wp2
  all_goals
    go_ret
    exact ⟨rfl, rfl⟩

set_option maxHeartbeats 1600000 in
theorem fst_any (p q : Int)  (w : World) :
    Calls Try.prog 53 #[.int .u64 p, .int .u64 q] w fun e w' => e = .returned (.int .u64 (p)) ∧ w = w' := by
  go_enter Try.func53, Try.ntmps53
  go_wp2
  all_goals
    go_ret
    exact ⟨rfl, rfl⟩

set_option maxHeartbeats 1600000 in
theorem zero_any0 (p q : Int)  (w : World) :
    Calls Try.prog 54 #[.int .u64 p, .int .u64 q] w fun e w' => e = .returned (.int .u64 (0)) ∧ w = w' := by
  go_enter Try.func54, Try.ntmps54
  go_wp2
  all_goals
    go_ret
    exact ⟨rfl, rfl⟩

set_option maxHeartbeats 1600000 in
theorem remc_any (p q : Int) (q0 : 1 ≤ q) (q1 : q < 18446744073709551616) (w : World) :
    Calls Try.prog 55 #[.int .u64 p, .int .u64 q] w fun e w' => e = .returned (.int .u64 (min p (q - 1))) ∧ w = w' := by
  go_enter Try.func55, Try.ntmps55
  go_wp2
  all_goals
    go_ret
    exact ⟨rfl, rfl⟩

set_option maxHeartbeats 1600000 in
theorem minc_any (p q : Int)  (w : World) :
    Calls Try.prog 58 #[.int .u64 p, .int .u64 q] w fun e w' => e = .returned (.int .u64 (min p q)) ∧ w = w' := by
  go_enter Try.func58, Try.ntmps58
  go_wp2
  all_goals
    go_ret
    exact ⟨Sn.ret_n (by omega), rfl⟩

set_option maxHeartbeats 1600000 in
theorem maxc_any (p q : Int)  (w : World) :
    Calls Try.prog 59 #[.int .u64 p, .int .u64 q] w fun e w' => e = .returned (.int .u64 (max p q)) ∧ w = w' := by
  go_enter Try.func59, Try.ntmps59
  go_wp2
  all_goals
    go_ret
    exact ⟨Sn.ret_n (by omega), rfl⟩

set_option maxHeartbeats 1600000 in
theorem shrc_any (p q : Int) (p0 : 0 ≤ p) (q0 : 0 ≤ q) (w : World) :
    Calls Try.prog 60 #[.int .u64 p, .int .u64 q] w fun e w' => e = .returned (.int .u64 (p / Wd.pw (Wd.sh q))) ∧ w = w' := by
  go_enter Try.func60, Try.ntmps60
  go_wp2
  all_goals
    go_ret
    exact ⟨rfl, rfl⟩

set_option maxHeartbeats 1600000 in
theorem shlc_any (p q : Int) (q0 : 0 ≤ q) (w : World) :
    Calls Try.prog 61 #[.int .u64 p, .int .u64 q] w fun e w' => e = .returned (.int .u64 (IntKind.u64.wrap (p * Wd.pw (Wd.sh q)))) ∧ w = w' := by
  go_enter Try.func61, Try.ntmps61
  go_wp2
  all_goals
    go_ret
    exact ⟨rfl, rfl⟩

theorem Sn.len_any (x : Int) (w : World) (h0 : 0 ≤ x) (h1 : x < 18446744073709551616) :
    Calls Try.prog 57 #[.int .u64 x] w fun e w' => e = .returned (.int .i64 (Lib.bitLen x.toNat)) ∧ w' = w := Sn.bits_Len64 x w h0 (by omega)
theorem Sn.mul_any (x y : Int) (w : World) (x0 : 0 ≤ x) (x1 : x < 18446744073709551616) (y0 : 0 ≤ y) (y1 : y < 18446744073709551616) :
    Calls Try.prog 50 #[.int .u64 x, .int .u64 y] w fun e w' => e = .returned (.tuple #[.int .u64 (x * y / 18446744073709551616), .int .u64 (x * y % 18446744073709551616)]) ∧ w' = w := by
  obtain ⟨m, rfl⟩ := Int.eq_ofNat_of_zero_le x0
  obtain ⟨n, rfl⟩ := Int.eq_ofNat_of_zero_le y0
  exact Sn.bits_Mul64 m n (by omega) (by omega) w
theorem Sn.ones_code (n : Int) (h0 : 0 ≤ n) (h1 : n < 18446744073709551616) : IntKind.u64.wrap (IntKind.u64.wrap (2 ^ min (Lib.bitLen n.toNat) 64) - 1) = Sn.ones n := by
  have h := Lib.bitLen_le n.toNat 64 (Nat.le_refl _) (by omega)
  unfold Sn.ones
  generalize Lib.bitLen n.toNat = k at *
  rw [Nat.min_eq_left h]
  have e : (2 : Int) ^ k = ((2 ^ k : Nat) : Int) := by simp
  have hp := Nat.two_pow_pos k
  rw [IntKind.wrap_u64, IntKind.wrap_u64, e]
  rcases Nat.lt_or_ge k 64 with h2 | h2
  · have h3 : 2 ^ k < 2 ^ 64 := Nat.pow_lt_pow_right (by decide) h2
    omega
  · obtain rfl : k = 64 := by omega
    decide

set_option maxHeartbeats 1600000 in
theorem onesc_any (p q : Int) (p0 : 0 ≤ p) (p1 : p < 18446744073709551616) (q0 : 0 ≤ q) (q1 : q < 18446744073709551616) (w : World) :
    Calls Try.prog 56 #[.int .u64 p, .int .u64 q] w fun e w' => e = .returned (.int .u64 (Sn.ones (max p q))) ∧ w = w' := by
  go_enter Try.func56, Try.ntmps56
  go_wp2_with (go_at_call 57; refine (Sn.len_any _ _ (by omega) (by omega)).mono ?_; rintro e w9 ⟨rfl, rfl⟩)
  all_goals
    go_ret
    exact ⟨Sn.ret_n (Sn.ones_code _ (by omega) (by omega)), rfl⟩


end Go.Proofs.Ytbjckcjfambpoaa
