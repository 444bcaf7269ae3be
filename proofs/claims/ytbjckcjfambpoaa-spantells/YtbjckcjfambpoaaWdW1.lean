/-
  Contracts of layer 1's small functions: width, Mask, highest, Cut, Sign.
-/
import Derived.Test.YtbjckcjfambpoaaRows
import Derived.Test.YtbjckcjfambpoaaWdPlain
import Derived.WalkKit
import Derived.WalkSpells
import Derived.WalkLawsBesides
import Derived.Lib.Hide
import Derived.Deep.QuietTactic
import Derived.BigQuiet
namespace Go.Proofs.Ytbjckcjfambpoaa
set_option linter.unusedSimpArgs false
set_option linter.unusedVariables false
set_option maxRecDepth 100000
open Go.RowKit

theorem wret_int {k : IntKind} {a b : Int} (h : a = b) : Ending.returned (.int k a) = .returned (.int k b) := by rw [h]

set_option maxHeartbeats 400000 in
theorem wd_width_any (a : Int) (w : World) :
    Calls Try.prog 43 #[.int .i64 a] w fun e w' => e = .returned (.int .i64 (Wd.wid a)) ∧ w = w' := by
  go_enter Try.func43, Try.ntmps43
  go_wp2
  all_goals
    go_ret
    refine ⟨wret_int ?_, rfl⟩
    unfold Wd.wid
    omega

set_option maxHeartbeats 400000 in
theorem mask_any (a : Int) (w : World) :
    Calls Try.prog 21 #[.int .i64 a] w fun e w' => e = .returned (.int .u64 (Wd.msk a)) ∧ w = w' := by
  have h1 := Wd.wid_lo a
  have h2 := Wd.wid_hi a
  go_enter Try.func21, Try.ntmps21
  go_wp2_with fail
  refine (wd_width_any _ _).mono ?_; rintro e w' ⟨rfl, rfl⟩
  go_wp2
  go_ret
  exact ⟨wret_int (Wd.mask_code' a), rfl⟩

set_option maxHeartbeats 400000 in
theorem high_any (a : Int) (w : World) :
    Calls Try.prog 83 #[.int .i64 a] w fun e w' => e = .returned (.int .u64 (Wd.hib a)) ∧ w = w' := by
  have h1 := Wd.wid_lo a
  have h2 := Wd.wid_hi a
  go_enter Try.func83, Try.ntmps83
  go_wp2_with fail
  refine (wd_width_any _ _).mono ?_; rintro e w' ⟨rfl, rfl⟩
  go_wp2
  go_ret
  exact ⟨wret_int (Wd.high_code a), rfl⟩

set_option maxHeartbeats 400000 in
theorem cut_any (a x : Int) (w : World) :
    Calls Try.prog 20 #[.int .i64 a, .int .u64 x] w fun e w' => e = .returned (.int .u64 (Wd.cut a x)) ∧ w = w' := by
  go_enter Try.func20, Try.ntmps20
  go_wp2_with fail
  refine (mask_any _ _).mono ?_; rintro e w' ⟨rfl, rfl⟩
  go_wp2
  go_ret
  exact ⟨wret_int (Wd.bits_cut a x), rfl⟩

set_option maxHeartbeats 400000 in
theorem sign_any (a x : Int) (w : World) :
    Calls Try.prog 85 #[.int .i64 a, .int .u64 x] w fun e w' => e = .returned (.int .i64 (Wd.sgn a x)) ∧ w = w' := by
  have h1 := Wd.wid_lo a
  have h2 := Wd.wid_hi a
  go_enter Try.func85, Try.ntmps85
  go_wp2_with fail
  refine (wd_width_any _ _).mono ?_; rintro e w' ⟨rfl, rfl⟩
  go_wp2
  go_ret
  exact ⟨wret_int (by unfold wrap64; exact Wd.sign_code a x), rfl⟩


set_option maxHeartbeats 400000 in
theorem div_any (op a x y : Int) (x0 : 0 ≤ x) (x1 : x < 18446744073709551616) (y0 : 0 ≤ y) (y1 : y < 18446744073709551616) (h12 : (op == 12) = false) (w : World) :
    Calls Try.prog 40 #[.int .i64 op, .int .i64 a, .int .u64 x, .int .u64 y] w fun e w' => e = .returned (.int .u64 (Wd.dvd op a x y)) ∧ ∃ n, w' = w.drewN n := by
  have ho : op ≠ 12 := by simpa using h12
  by_cases hy : y = 0
  · subst hy
    go_enter Try.func40, Try.ntmps40
    go_wp2_with fail
    refine (mask_any _ _).mono ?_; rintro e w' ⟨rfl, rfl⟩
    go_wp2
    go_ret
    exact ⟨wret_int (by simp [Wd.dvd, ho]), 0, rfl⟩
  · have hy1 : (y != 0) = true := by simpa using hy
    have hy2 : (y == 0) = false := by simpa using hy
    have hy3 : 0 < y := by omega
    go_enter Try.func40, Try.ntmps40
    go_wp2_with fail
    refine (mask_any _ _).mono ?_; rintro e w' ⟨rfl, rfl⟩
    go_wp2
    go_quiet (fail)
    go_wp2
    go_ret
    exact ⟨wret_int (by simp [Wd.dvd, ho, hy]), nq, rfl⟩

set_option maxHeartbeats 400000 in
theorem rem_any (a x y : Int) (x0 : 0 ≤ x) (x1 : x < 18446744073709551616) (y0 : 0 ≤ y) (y1 : y < 18446744073709551616) (w : World) :
    Calls Try.prog 40 #[.int .i64 12, .int .i64 a, .int .u64 x, .int .u64 y] w fun e w' => e = .returned (.int .u64 (Wd.dvd 12 a x y)) ∧ ∃ n, w' = w.drewN n := by
  by_cases hy : y = 0
  · subst hy
    go_enter Try.func40, Try.ntmps40
    go_wp2_with fail
    refine (mask_any _ _).mono ?_; rintro e w' ⟨rfl, rfl⟩
    go_wp2
    go_ret
    exact ⟨wret_int (by simp [Wd.dvd]), 0, rfl⟩
  · have hy1 : (y != 0) = true := by simpa using hy
    have hy2 : (y == 0) = false := by simpa using hy
    have hy3 : 0 < y := by omega
    go_enter Try.func40, Try.ntmps40
    go_wp2_with fail
    refine (mask_any _ _).mono ?_; rintro e w' ⟨rfl, rfl⟩
    go_wp2
    go_quiet (fail)
    go_wp2
    go_ret
    exact ⟨wret_int (by simp [Wd.dvd, hy]), nq, rfl⟩

theorem zero_any (x : Int) (w : World) : Calls Try.prog 82 #[.int .u64 x] w fun e w' => e = .returned (.int .u64 0) ∧ w = w' := by
  go_enter Try.func82, Try.ntmps82
  go_wp2
  go_ret
  exact ⟨rfl, rfl⟩
theorem room_any (x : Int) (w : World) : Calls Try.prog 84 #[.int .u64 x] w fun e w' => e = .returned (.int .u64 x) ∧ w = w' := by
  go_enter Try.func84, Try.ntmps84
  go_wp2
  go_ret
  exact ⟨rfl, rfl⟩

set_option maxHeartbeats 400000 in
theorem shl_any (a x y : Int) (y0 : 0 ≤ y) (w : World) :
    Calls Try.prog 41 #[.int .i64 16, .int .i64 a, .int .u64 x, .int .u64 y] w fun e w' => e = .returned (.int .u64 (Wd.cut a (x * Wd.pw (Wd.sh y)))) ∧ w = w' := by
  go_enter Try.func41, Try.ntmps41
  go_wp2_with fail
  refine (mask_any _ _).mono ?_; rintro e w' ⟨rfl, rfl⟩
  go_wp2_with fail
  refine (zero_any _ _).mono ?_; rintro e w' ⟨rfl, rfl⟩
  go_wp2_with fail
  refine (cut_any _ _ _).mono ?_; rintro e w' ⟨rfl, rfl⟩
  go_wp2
  go_ret
  exact ⟨wret_int (Wd.shl_code a x y), rfl⟩

set_option maxHeartbeats 400000 in
theorem shr_any (a x y : Int) (x0 : 0 ≤ x) (x1 : x < Wd.pw (Wd.wid a)) (y0 : 0 ≤ y) (w : World) :
    Calls Try.prog 41 #[.int .i64 17, .int .i64 a, .int .u64 x, .int .u64 y] w fun e w' => e = .returned (.int .u64 (x / Wd.pw (Wd.sh y))) ∧ w = w' := by
  go_enter Try.func41, Try.ntmps41
  go_wp2_with fail
  refine (mask_any _ _).mono ?_; rintro e w' ⟨rfl, rfl⟩
  go_wp2_with fail
  refine (zero_any _ _).mono ?_; rintro e w' ⟨rfl, rfl⟩
  go_wp2_with fail
  refine (cut_any _ _ _).mono ?_; rintro e w' ⟨rfl, rfl⟩
  go_wp2
  go_ret
  exact ⟨wret_int (Wd.shr_code a x y x0 x1), rfl⟩

set_option maxHeartbeats 400000 in
theorem sar_any (a x y : Int) (x0 : 0 ≤ x) (x1 : x < Wd.pw (Wd.wid a)) (y0 : 0 ≤ y) (w : World) :
    Calls Try.prog 41 #[.int .i64 18, .int .i64 a, .int .u64 x, .int .u64 y] w fun e w' => e = .returned (.int .u64 (Wd.cut a (Wd.sgn a x / Wd.pw (Wd.sh y)))) ∧ w = w' := by
  have hb := Wd.bits_and_hib a x x0 x1
  have hp := Wd.hib_pos a
  by_cases hx : x < Wd.hib a
  · have ht : (bits .and .u64 x (Wd.hib a) != 0) = false := by rw [hb, if_pos hx]; rfl
    have HC := Lib.hid (Wd.sar_code_pos a x y x0 x1 hx)
    clear hb
    go_enter Try.func41, Try.ntmps41
    go_wp2_with fail
    refine (mask_any _ _).mono ?_; rintro e w' ⟨rfl, rfl⟩
    go_wp2_with fail
    refine (high_any _ _).mono ?_; rintro e w' ⟨rfl, rfl⟩
    go_wp2_with fail
    refine (zero_any _ _).mono ?_; rintro e w' ⟨rfl, rfl⟩
    go_wp2_with fail
    refine (cut_any _ _ _).mono ?_; rintro e w' ⟨rfl, rfl⟩
    go_wp2
    go_ret
    exact ⟨wret_int HC.out, rfl⟩
  · have ht : (bits .and .u64 x (Wd.hib a) != 0) = true := by rw [hb, if_neg hx]; simp; omega
    have HC := Lib.hid (Wd.sar_code_neg a x y x0 x1 hx)
    clear hb
    go_enter Try.func41, Try.ntmps41
    go_wp2_with fail
    refine (mask_any _ _).mono ?_; rintro e w' ⟨rfl, rfl⟩
    go_wp2_with fail
    refine (high_any _ _).mono ?_; rintro e w' ⟨rfl, rfl⟩
    go_wp2_with fail
    refine (room_any _ _).mono ?_; rintro e w' ⟨rfl, rfl⟩
    go_wp2_with fail
    refine (cut_any _ _ _).mono ?_; rintro e w' ⟨rfl, rfl⟩
    go_wp2
    go_ret
    exact ⟨wret_int HC.out, rfl⟩

set_option maxHeartbeats 400000 in
theorem eq_any (a x y : Int) (w : World) :
    Calls Try.prog 42 #[.int .i64 19, .int .i64 a, .int .u64 x, .int .u64 y] w fun e w' => e = .returned (.int .u64 (Wd.eqv x y)) ∧ w = w' := by
  by_cases h : x = y
  · have hb : (x == y) = true := by simpa using h
    rw [Wd.eqv, if_pos h]; clear h
    go_enter Try.func42, Try.ntmps42
    go_wp2
    go_ret
    exact ⟨rfl, rfl⟩
  · have hb : (x == y) = false := by simpa using h
    rw [Wd.eqv, if_neg h]; clear h
    go_enter Try.func42, Try.ntmps42
    go_wp2
    go_ret
    exact ⟨rfl, rfl⟩
set_option maxHeartbeats 400000 in
theorem less_any (a x y : Int) (w : World) :
    Calls Try.prog 42 #[.int .i64 20, .int .i64 a, .int .u64 x, .int .u64 y] w fun e w' => e = .returned (.int .u64 (Wd.ltv x y)) ∧ w = w' := by
  by_cases h : x < y
  · rw [Wd.ltv, if_pos h]
    go_enter Try.func42, Try.ntmps42
    go_wp2
    go_ret
    exact ⟨rfl, rfl⟩
  · rw [Wd.ltv, if_neg h]
    go_enter Try.func42, Try.ntmps42
    go_wp2
    go_ret
    exact ⟨rfl, rfl⟩
set_option maxHeartbeats 400000 in
theorem below_any (a x y : Int) (x0 : 0 ≤ x) (x1 : x < Wd.pw (Wd.wid a)) (y0 : 0 ≤ y) (y1 : y < Wd.pw (Wd.wid a)) (w : World) :
    Calls Try.prog 42 #[.int .i64 21, .int .i64 a, .int .u64 x, .int .u64 y] w fun e w' => e = .returned (.int .u64 (Wd.ltv (Wd.sgn a x) (Wd.sgn a y))) ∧ w = w' := by
  have hb := Wd.below_code a x y x0 x1 y0 y1
  by_cases h : Wd.sgn a x < Wd.sgn a y
  · rw [Wd.ltv, if_pos h]
    have hd := hb.2 h
    clear hb h
    go_enter Try.func42, Try.ntmps42
    go_wp2_with fail
    refine (high_any _ _).mono ?_; rintro e w' ⟨rfl, rfl⟩
    go_wp2_with fail
    refine (high_any _ _).mono ?_; rintro e w' ⟨rfl, rfl⟩
    go_wp2
    go_ret
    exact ⟨rfl, rfl⟩
  · rw [Wd.ltv, if_neg h]
    have hd : ¬ (bits .xor .u64 x (Wd.hib a) < bits .xor .u64 y (Wd.hib a)) := fun q => h (hb.1 q)
    clear hb h
    go_enter Try.func42, Try.ntmps42
    go_wp2_with fail
    refine (high_any _ _).mono ?_; rintro e w' ⟨rfl, rfl⟩
    go_wp2_with fail
    refine (high_any _ _).mono ?_; rintro e w' ⟨rfl, rfl⟩
    go_wp2
    go_ret
    exact ⟨rfl, rfl⟩
end Go.Proofs.Ytbjckcjfambpoaa
