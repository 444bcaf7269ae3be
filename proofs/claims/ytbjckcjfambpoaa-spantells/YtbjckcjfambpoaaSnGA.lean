/-
  Layer 11: the reference's small functions.
  Layer 11: the reference's Right, Has, order, truths.
  Layer 11: the reference's truths.
  Layer 11: the reference's sums.
-/
import Derived.Test.YtbjckcjfambpoaaSnW3
import Derived.Test.YtbjckcjfambpoaaWdG2
import Derived.Test.YtbjckcjfambpoaaHrT
set_option linter.unusedSimpArgs false
set_option linter.unusedVariables false
namespace Go.Proofs.Ytbjckcjfambpoaa
set_option linter.unusedSimpArgs false
set_option linter.unusedVariables false
open Go.RowKit Go.Maps
set_option maxRecDepth 100000

namespace Sn
theorem ret_n0 {a b : Int} (h : a = b) : Ending.returned (.int .u64 a) = .returned (.int .u64 b) := by rw [h]
theorem ones_step (M k : Nat) (h : 2 ^ k - 1 < M) (hM : M < 18446744073709551616) : k + 1 ≤ Lib.bitLen M := by
  have h1 := bl_lt 64 M hM
  rcases Nat.lt_or_ge k (Lib.bitLen M) with h2 | h2
  · omega
  · have h3 : 2 ^ Lib.bitLen M ≤ 2 ^ k := Nat.pow_le_pow_right (by decide) h2
    have h4 : 2 ^ Lib.bitLen M = 2 ^ Lib.bitLenAux 64 M := rfl
    omega
theorem ones_stop (M k : Nat) (h : ¬ 2 ^ k - 1 < M) (hk : k ≤ Lib.bitLen M) : 2 ^ k - 1 = 2 ^ Lib.bitLen M - 1 := by
  rcases Nat.eq_or_lt_of_le hk with h1 | h1
  · rw [h1]
  · exfalso
    obtain ⟨j, hj⟩ : ∃ j, Lib.bitLen M = j + 1 := ⟨Lib.bitLen M - 1, by omega⟩
    have h2 := bl_ge 64 M j hj
    have h3 : 2 ^ k ≤ 2 ^ j := Nat.pow_le_pow_right (by decide) (by omega)
    have h4 := Nat.two_pow_pos k
    omega
theorem fits_iff (m p q : Int) (hp : 0 < p) : (q ≤ m / p) ↔ p * q ≤ m := by
  rw [Int.le_ediv_iff_mul_le hp, Int.mul_comm]
end Sn

theorem Sn.c2 {W W' : World} {g : Nat} {t : TypeId} {a b : Value} (h : Sn.Bk W g t #[a, b]) (hb : Below W.heap.size W W') : W'.cell? ⟨g, 0, none⟩ = some a ∧ W'.cell? ⟨g, 1, none⟩ = some b := by
  have y := Sn.bk_below h hb (Sn.bk_lt h)
  exact ⟨Sn.bk_c y 0, Sn.bk_c y 1⟩
set_option maxHeartbeats 1600000 in
theorem rgreat_any (p q : Int) (w : World) : Calls Try.prog 38 #[.int .u64 p, .int .u64 q] w fun e w' => e = .returned (.int .u64 (max p q)) ∧ w = w' := by
  go_enter Try.func38, Try.ntmps38
  go_wp2
  all_goals
    go_ret
    exact ⟨Sn.ret_n0 (by omega), rfl⟩
set_option maxHeartbeats 1600000 in
theorem rsmall_any (p q : Int) (w : World) : Calls Try.prog 39 #[.int .u64 p, .int .u64 q] w fun e w' => e = .returned (.int .u64 (min p q)) ∧ w = w' := by
  go_enter Try.func39, Try.ntmps39
  go_wp2
  all_goals
    go_ret
    exact ⟨Sn.ret_n0 (by omega), rfl⟩
set_option maxHeartbeats 1600000 in
theorem rover_any (m p q : Int) (m0 : 0 ≤ m) (m1 : m < 18446744073709551616) (p0 : 0 ≤ p) (p1 : p < 18446744073709551616) (w : World) : Calls Try.prog 77 #[.int .u64 m, .int .u64 p, .int .u64 q] w fun e w' => e = .returned (.bool (decide (m < p + q) || decide (m < p))) ∧ w = w' := by
  by_cases h : m < p
  · have hd : decide (p > m) = true := by simpa using h
    go_enter Try.func77, Try.ntmps77
    go_wp2
    go_ret
    exact ⟨Sn.ret_b (by simp [h]), rfl⟩
  · have hd : decide (p > m) = false := by simpa using h
    go_enter Try.func77, Try.ntmps77
    go_wp2
    all_goals
      go_ret
      exact ⟨Sn.ret_b (by simp; omega), rfl⟩
set_option maxHeartbeats 1600000 in
theorem rfits_any (m p q : Int) (m0 : 0 ≤ m) (m1 : m < 18446744073709551616) (p0 : 0 ≤ p) (p1 : p < 18446744073709551616) (w : World) : Calls Try.prog 78 #[.int .u64 m, .int .u64 p, .int .u64 q] w fun e w' => e = .returned (.bool (decide (p * q ≤ m))) ∧ w = w' := by
  by_cases h : p = 0
  · subst h
    have e : decide (0 * q ≤ m) = true := by simp; omega
    rw [e]
    go_enter Try.func78, Try.ntmps78
    go_wp2
    go_ret
    exact ⟨rfl, rfl⟩
  · have hd : (p == 0) = false := by simpa using h
    rw [show decide (p * q ≤ m) = decide (q ≤ m / p) from decide_eq_decide.2 (Sn.fits_iff m p q (by omega)).symm]
    go_enter Try.func78, Try.ntmps78
    go_wp2
    all_goals
      go_ret
      exact ⟨rfl, rfl⟩
set_option maxHeartbeats 1600000 in
theorem rones_any (p q : Int) (p0 : 0 ≤ p) (p1 : p < 18446744073709551616) (q0 : 0 ≤ q) (q1 : q < 18446744073709551616) (w : World) : Calls Try.prog 79 #[.int .u64 p, .int .u64 q] w fun e w' => e = .returned (.int .u64 (Sn.ones (max p q))) ∧ w = w' := by
  have HN := Lib.hid (show ((max p q).toNat : Int) = max p q by omega)
  have hM : (max p q).toNat < 18446744073709551616 := by omega
  unfold Sn.ones
  generalize (max p q).toNat = M at *
  have hb : Lib.bitLen M ≤ 64 := Lib.bitLen_le M 64 (Nat.le_refl _) hM
  have HS := Lib.hid (fun k h => Sn.ones_step M k h hM)
  have HT := Lib.hid (fun k h hk => Sn.ones_stop M k h hk)
  generalize Lib.bitLen M = B at *
  go_enter Try.func79, Try.ntmps79
  go_wp2
  go_loopw [5] (fun t V => ∃ k : Nat, k ≤ B ∧ t = .int .u64 ((2 ^ k - 1 : Nat) : Int) ∧ V = w) (fun t _ => (18446744073709551616 - intOf t).toNat)
  case atStart => exact ⟨0, Nat.zero_le _, rfl, rfl⟩
  case round =>
    obtain ⟨k, hk, rfl, rfl⟩ := hrel
    have hp := Nat.two_pow_pos k
    have hpl : 2 ^ k ≤ 2 ^ 64 := Nat.pow_le_pow_right (by decide) (by omega)
    have hs := HS.out k
    have ht := HT.out k
    have hn := HN.out
    have e2 : 2 ^ (k + 1) = 2 * 2 ^ k := by rw [Nat.pow_succ]; omega
    by_cases hlt : 2 ^ k - 1 < M
    · have hk1 := hs hlt
      have hpl1 : 2 ^ (k + 1) ≤ 2 ^ 64 := Nat.pow_le_pow_right (by decide) (by omega)
      have HK1 := Lib.hid hk1
      have HE2 := Lib.hid (show ((2 ^ (k + 1) - 1 : Nat) : Int) = 2 * ((2 ^ k - 1 : Nat) : Int) + 1 by omega)
      have hz : ((2 ^ k - 1 : Nat) : Int) < max p q := by omega
      have hz2 : 2 * ((2 ^ k - 1 : Nat) : Int) + 1 < 18446744073709551616 := by omega
      have hz0 : 0 ≤ ((2 ^ k - 1 : Nat) : Int) := by omega
      clear hs ht hn hk1 e2 hpl1 hpl hp
      generalize ((2 ^ k - 1 : Nat) : Int) = z at *
      rcases Int.lt_or_le z p with g1 | g1
      · have gd : decide (z < p) = true := by simpa using g1
        go_wp2
        go_roundw
        case rel => exact ⟨k + 1, HK1.out, congrArg (Value.int .u64) (by rw [HE2.out]), by first | rfl | trivial⟩
        case measure => simp [intOf]; omega
      · have gd : decide (z < p) = false := by simpa using g1
        have gd2 : decide (z < q) = true := by simp; omega
        go_wp2
        go_roundw
        case rel => exact ⟨k + 1, HK1.out, congrArg (Value.int .u64) (by rw [HE2.out]), by first | rfl | trivial⟩
        case measure => simp [intOf]; omega
    · have he := ht hlt hk
      have HE := Lib.hid (show ((2 ^ k - 1 : Nat) : Int) = ((2 ^ B - 1 : Nat) : Int) by rw [he])
      have hz : ¬ ((2 ^ k - 1 : Nat) : Int) < max p q := by omega
      clear hs ht hn e2 hpl hp
      generalize ((2 ^ k - 1 : Nat) : Int) = z at *
      have gd : decide (z < p) = false := by simp; omega
      have gd2 : decide (z < q) = false := by simp; omega
      go_wp2
      go_ret
      exact ⟨Sn.ret_n0 HE.out, rfl⟩
set_option maxHeartbeats 1600000 in
theorem rtwo_any (N : Nat) (hN : N < 64) (w : World) : Calls Try.prog 80 #[.int .u64 N] w fun e w' => e = .returned (.int .u64 (Wd.pw N)) ∧ w = w' := by
  go_enter Try.func80, Try.ntmps80
  go_wp2
  go_loopw [0, 3] (fun n x V => ∃ k : Nat, k ≤ N ∧ n = .int .u64 ((N : Int) - (k : Int)) ∧ x = .int .u64 (Wd.pw k) ∧ V = w) (fun n _ _ => (intOf n).toNat)
  case atStart => exact ⟨0, Nat.zero_le _, congrArg (Value.int .u64) (by omega), congrArg (Value.int .u64) rfl, rfl⟩
  case round =>
    obtain ⟨k, hk, rfl, rfl, rfl⟩ := hrel
    by_cases hlt : k < N
    · have hz : Wd.pw (k + 1) = 2 * Wd.pw k := Wd.pw_succ k
      have hz2 : Wd.pw (k + 1) ≤ Wd.pw 63 := Wd.pw_mono (by omega)
      have hz3 : Wd.pw 63 = 9223372036854775808 := by decide
      have hp := Wd.pw_pos k
      have HZ := Lib.hid hz
      have hz4 : 2 * Wd.pw k < 18446744073709551616 := by omega
      clear hz hz2 hz3
      generalize Wd.pw k = z at *
      have gd : decide ((N : Int) - (k : Int) > 0) = true := by simp; omega
      go_wp2
      go_roundw
      case rel => exact ⟨k + 1, by omega, congrArg (Value.int .u64) (by omega), congrArg (Value.int .u64) HZ.out.symm, by first | rfl | trivial⟩
      case measure => simp [intOf]; omega
    · obtain rfl : k = N := by omega
      go_wp2
      go_ret
      exact ⟨rfl, rfl⟩
set_option maxHeartbeats 1600000 in
theorem rdown_any (v x : Int) (B : Nat) (v0 : 1 ≤ v) (v1 : v ≤ 64) (x0 : 0 ≤ x) (x1 : x < 18446744073709551616) (hB : B < 18446744073709551616) (w : World) : Calls Try.prog 81 #[.int .i64 v, .int .u64 x, .int .u64 B] w fun e w' => e = .returned (.int .u64 (if v ≤ B then 0 else x / Wd.pw B)) ∧ w = w' := by
  by_cases h : v ≤ B
  · rw [if_pos h]
    have gd : decide ((B : Int) ≥ v) = true := by simpa using h
    go_enter Try.func81, Try.ntmps81
    go_wp2
    go_ret
    exact ⟨rfl, rfl⟩
  · rw [if_neg h]
    have gd : decide ((B : Int) ≥ v) = false := by simpa using h
    go_enter Try.func81, Try.ntmps81
    go_wp2
    go_loopw [1, 2] (fun y n V => ∃ k : Nat, k ≤ B ∧ n = .int .u64 ((B : Int) - (k : Int)) ∧ y = .int .u64 (x / Wd.pw k) ∧ V = w) (fun _ n _ => (intOf n).toNat)
    case atStart => exact ⟨0, Nat.zero_le _, congrArg (Value.int .u64) (by omega), congrArg (Value.int .u64) (by show x = x / 1; omega), rfl⟩
    case round =>
      obtain ⟨k, hk, rfl, rfl, rfl⟩ := hrel
      by_cases hlt : k < B
      · have HZ := Lib.hid (Wd.half_succ x k)
        have hz0 : 0 ≤ x / Wd.pw k := Wd.div_pw_lo x k x0
        have hz1 : x / Wd.pw k ≤ x := Wd.div_pw_le x k x0
        generalize x / Wd.pw k = z at *
        have gd2 : decide ((B : Int) - (k : Int) > 0) = true := by simp; omega
        go_wp2
        go_roundw
        case rel => exact ⟨k + 1, by omega, congrArg (Value.int .u64) (by omega), congrArg (Value.int .u64) HZ.out, by first | rfl | trivial⟩
        case measure => simp [intOf]; omega
      · obtain rfl : k = B := by omega
        go_wp2
        go_ret
        exact ⟨rfl, rfl⟩

end Go.Proofs.Ytbjckcjfambpoaa
namespace Go.Proofs.Ytbjckcjfambpoaa
set_option linter.unusedSimpArgs false
set_option linter.unusedVariables false
open Go.RowKit Go.Maps
set_option maxRecDepth 100000

set_option maxHeartbeats 1600000 in
theorem rright_any (a : Int) (s : Sn.S) (w : World) :
    Calls Try.prog 12 #[.int .i64 a, Sn.v s] w fun e w' => e = .returned (Sn.v (Sn.rt a s)) ∧ Below w.heap.size w w' := by
  obtain ⟨p, q⟩ := s
  show Calls Try.prog 12 #[.int .i64 a, .agg #[.int .u64 p, .int .u64 q]] w _
  by_cases h : q < p
  · have hd : decide (p > q) = true := by simpa using h
    rw [show Sn.rt a (p, q) = Sn.whole a by unfold Sn.rt; exact if_pos (.inl h)]
    clear h
    go_enter Try.func12, Try.ntmps12
    go_upto_region 1 with (fail)
    have hB : Below w.heap.size w ((w.alloc (.cells #[.int .u64 p, .int .u64 q] 24)).alloc (.cells #[.int .u64 0, .int .u64 0] 24)) := (((Below.refl _ _).alloc (Nat.le_refl _) _).alloc (by simp) _)
    have hr0 : Sn.Bk ((w.alloc (.cells #[.int .u64 p, .int .u64 q] 24)).alloc (.cells #[.int .u64 0, .int .u64 0] 24)) (w.heap.size) 24 #[.int .u64 p, .int .u64 q] := Sn.bk_old (Sn.bk_new _ _ _) _
    have hr1 : Sn.Bk ((w.alloc (.cells #[.int .u64 p, .int .u64 q] 24)).alloc (.cells #[.int .u64 0, .int .u64 0] 24)) (w.heap.size + 1) 24 #[.int .u64 0, .int .u64 0] := Sn.bk_at (by simp)
    generalize ((w.alloc (.cells #[.int .u64 p, .int .u64 q] 24)).alloc (.cells #[.int .u64 0, .int .u64 0] 24)) = v at *
    have HB := Lib.hid hB
    have HR0 := Lib.hid hr0
    have HR1 := Lib.hid hr1
    clear hB hr0 hr1
    go_wp2_with fail
    refine (rmask_all a v).mono ?_
    rintro e v2 ⟨rfl, hb⟩
    have hr0 := Sn.bk_below HR0.out hb (Sn.bk_lt HR0.out)
    have hr1 := Sn.bk_below HR1.out hb (Sn.bk_lt HR1.out)
    have hB := Sn.below_next HB.out hb HB.out.size
    clear HB HR0 HR1 hb
    have HB := Lib.hid hB
    have HR0 := Lib.hid hr0
    have HR1 := Lib.hid hr1
    clear hB hr0 hr1
    clear v
    rename World => v
    have c0_0 := Sn.bk_c HR0.out 0
    have c0_1 := Sn.bk_c HR0.out 1
    simp only [List.getElem?_toArray, List.getElem?_cons_zero, List.getElem?_cons_succ] at c0_0 c0_1
    have H1C := Lib.hid (show (#[.int .u64 0, .int .u64 (Wd.msk a)] : Array Value).all (·.oneCell') = true from by simp [Value.oneCell'])
    go_wp2_with (first | (with_reducible refine Sn.store_sp (.tmp 4) (.tmp 20) (w.heap.size + 1) #[.int .u64 0, .int .u64 0] #[.int .u64 0, .int .u64 (Wd.msk a)] HR1.out rfl rfl rfl rfl rfl rfl H1C.out ?_))
    refine Sn.ret_sp (w.heap.size + 1) _ (Sn.bk_row HR1.out _) rfl rfl rfl rfl ?_
    exact ⟨rfl, Sn.below_set HB.out (by omega) _⟩
  · have hd : decide (p > q) = false := by simpa using h
    by_cases h2 : Wd.msk a < q
    · have hd2 : decide (q > Wd.msk a) = true := by simpa using h2
      rw [show Sn.rt a (p, q) = Sn.whole a by unfold Sn.rt; exact if_pos (.inr h2)]
      clear h h2
      go_enter Try.func12, Try.ntmps12
      go_upto_region 1 with (fail)
      have hB : Below w.heap.size w ((w.alloc (.cells #[.int .u64 p, .int .u64 q] 24)).alloc (.cells #[.int .u64 0, .int .u64 0] 24)) := (((Below.refl _ _).alloc (Nat.le_refl _) _).alloc (by simp) _)
      have hr0 : Sn.Bk ((w.alloc (.cells #[.int .u64 p, .int .u64 q] 24)).alloc (.cells #[.int .u64 0, .int .u64 0] 24)) (w.heap.size) 24 #[.int .u64 p, .int .u64 q] := Sn.bk_old (Sn.bk_new _ _ _) _
      have hr1 : Sn.Bk ((w.alloc (.cells #[.int .u64 p, .int .u64 q] 24)).alloc (.cells #[.int .u64 0, .int .u64 0] 24)) (w.heap.size + 1) 24 #[.int .u64 0, .int .u64 0] := Sn.bk_at (by simp)
      generalize ((w.alloc (.cells #[.int .u64 p, .int .u64 q] 24)).alloc (.cells #[.int .u64 0, .int .u64 0] 24)) = v at *
      have HB := Lib.hid hB
      have HR0 := Lib.hid hr0
      have HR1 := Lib.hid hr1
      clear hB hr0 hr1
      go_wp2_with fail
      refine (rmask_all a v).mono ?_
      rintro e v2 ⟨rfl, hb⟩
      have hr0 := Sn.bk_below HR0.out hb (Sn.bk_lt HR0.out)
      have hr1 := Sn.bk_below HR1.out hb (Sn.bk_lt HR1.out)
      have hB := Sn.below_next HB.out hb HB.out.size
      clear HB HR0 HR1 hb
      have HB := Lib.hid hB
      have HR0 := Lib.hid hr0
      have HR1 := Lib.hid hr1
      clear hB hr0 hr1
      clear v
      rename World => v
      have c0_0 := Sn.bk_c HR0.out 0
      have c0_1 := Sn.bk_c HR0.out 1
      simp only [List.getElem?_toArray, List.getElem?_cons_zero, List.getElem?_cons_succ] at c0_0 c0_1
      have H1C := Lib.hid (show (#[.int .u64 0, .int .u64 (Wd.msk a)] : Array Value).all (·.oneCell') = true from by simp [Value.oneCell'])
      go_wp2_with (first | (with_reducible refine Sn.store_sp (.tmp 4) (.tmp 20) (w.heap.size + 1) #[.int .u64 0, .int .u64 0] #[.int .u64 0, .int .u64 (Wd.msk a)] HR1.out rfl rfl rfl rfl rfl rfl H1C.out ?_))
      refine Sn.ret_sp (w.heap.size + 1) _ (Sn.bk_row HR1.out _) rfl rfl rfl rfl ?_
      exact ⟨rfl, Sn.below_set HB.out (by omega) _⟩
    · have hd2 : decide (q > Wd.msk a) = false := by simpa using h2
      rw [show Sn.rt a (p, q) = (p, q) by unfold Sn.rt; exact if_neg (fun hc => hc.elim h h2)]
      clear h h2
      go_enter Try.func12, Try.ntmps12
      go_upto_region 1 with (fail)
      have hB : Below w.heap.size w ((w.alloc (.cells #[.int .u64 p, .int .u64 q] 24)).alloc (.cells #[.int .u64 0, .int .u64 0] 24)) := (((Below.refl _ _).alloc (Nat.le_refl _) _).alloc (by simp) _)
      have hr0 : Sn.Bk ((w.alloc (.cells #[.int .u64 p, .int .u64 q] 24)).alloc (.cells #[.int .u64 0, .int .u64 0] 24)) (w.heap.size) 24 #[.int .u64 p, .int .u64 q] := Sn.bk_old (Sn.bk_new _ _ _) _
      have hr1 : Sn.Bk ((w.alloc (.cells #[.int .u64 p, .int .u64 q] 24)).alloc (.cells #[.int .u64 0, .int .u64 0] 24)) (w.heap.size + 1) 24 #[.int .u64 0, .int .u64 0] := Sn.bk_at (by simp)
      generalize ((w.alloc (.cells #[.int .u64 p, .int .u64 q] 24)).alloc (.cells #[.int .u64 0, .int .u64 0] 24)) = v at *
      have HB := Lib.hid hB
      have HR0 := Lib.hid hr0
      have HR1 := Lib.hid hr1
      clear hB hr0 hr1
      go_wp2_with fail
      refine (rmask_all a v).mono ?_
      rintro e v2 ⟨rfl, hb⟩
      have hr0 := Sn.bk_below HR0.out hb (Sn.bk_lt HR0.out)
      have hr1 := Sn.bk_below HR1.out hb (Sn.bk_lt HR1.out)
      have hB := Sn.below_next HB.out hb HB.out.size
      clear HB HR0 HR1 hb
      have HB := Lib.hid hB
      have HR0 := Lib.hid hr0
      have HR1 := Lib.hid hr1
      clear hB hr0 hr1
      clear v
      rename World => v
      have c0_0 := Sn.bk_c HR0.out 0
      have c0_1 := Sn.bk_c HR0.out 1
      simp only [List.getElem?_toArray, List.getElem?_cons_zero, List.getElem?_cons_succ] at c0_0 c0_1
      have H1C := Lib.hid (show (#[.int .u64 p, .int .u64 q] : Array Value).all (·.oneCell') = true from by simp [Value.oneCell'])
      go_wp2_with (first | (with_reducible refine Sn.store_sp (.tmp 4) (.tmp 21) (w.heap.size + 1) #[.int .u64 0, .int .u64 0] #[.int .u64 p, .int .u64 q] HR1.out rfl rfl rfl rfl rfl rfl H1C.out ?_) | (with_reducible refine Sn.load_sp (.tmp 3) (w.heap.size) #[.int .u64 p, .int .u64 q] HR0.out rfl rfl rfl rfl ?_))
      refine Sn.ret_sp (w.heap.size + 1) _ (Sn.bk_row HR1.out _) rfl rfl rfl rfl ?_
      exact ⟨rfl, Sn.below_set HB.out (by omega) _⟩

set_option maxHeartbeats 1600000 in
theorem rhas_any (a : Int) (s : Sn.S) (n : Int) (w : World) :
    Calls Try.prog 14 #[.int .i64 a, Sn.v s, .int .u64 n] w fun e w' => e = .returned (.bool (Sn.has a s n)) ∧ Below w.heap.size w w' := by
  obtain ⟨x1, x2⟩ := s
  unfold Sn.has
  have HX := Lib.hid (fun W => rright_any a (x1, x2) W)
  have HM := Lib.hid (fun W => rmask_all a W)
  obtain ⟨t, ht⟩ : ∃ t, Wd.cut a n = t := ⟨_, rfl⟩
  have HC := Lib.hid ((Wd.bits_cut a n).trans ht)
  rw [ht]
  clear ht
  generalize Sn.rt a (x1, x2) = rx at *
  obtain ⟨p1, p2⟩ := rx
  show Calls Try.prog 14 #[.int .i64 a, .agg #[.int .u64 x1, .int .u64 x2], .int .u64 n] w _
  go_enter Try.func14, Try.ntmps14
  go_upto_region 1 with (fail)
  have hB : Below w.heap.size w (w.alloc (.cells #[.int .u64 x1, .int .u64 x2] 24)) := ((Below.refl _ _).alloc (Nat.le_refl _) _)
  have hr0 : Sn.Bk (w.alloc (.cells #[.int .u64 x1, .int .u64 x2] 24)) (w.heap.size) 24 #[.int .u64 x1, .int .u64 x2] := Sn.bk_new _ _ _
  generalize (w.alloc (.cells #[.int .u64 x1, .int .u64 x2] 24)) = v at *
  have HB := Lib.hid hB
  have HR0 := Lib.hid hr0
  clear hB hr0
  go_wp2_with (with_reducible refine Sn.load_sp (.tmp 4) (w.heap.size) #[.int .u64 x1, .int .u64 x2] HR0.out rfl rfl rfl rfl ?_)
  refine (HX.out v).mono ?_
  rintro e v2 ⟨rfl, hb⟩
  have hr0 := Sn.bk_below HR0.out hb (Sn.bk_lt HR0.out)
  have hB := Sn.below_next HB.out hb HB.out.size
  clear HB HR0 hb
  have HB := Lib.hid hB
  have HR0 := Lib.hid hr0
  clear hB hr0
  clear v
  rename World => v
  go_upto_region 2 with (fail)
  clear HR0
  have hB : Below w.heap.size w (v.alloc (.cells #[.int .u64 p1, .int .u64 p2] 24)) := (HB.out).alloc (by exact HB.out.size) _
  have hr1 : Sn.Bk (v.alloc (.cells #[.int .u64 p1, .int .u64 p2] 24)) (v.heap.size) 24 #[.int .u64 p1, .int .u64 p2] := Sn.bk_new _ _ _
  clear HB 
  generalize (v.alloc (.cells #[.int .u64 p1, .int .u64 p2] 24)) = u at *
  generalize v.heap.size = b3 at *
  clear v
  rename World => v
  have HB := Lib.hid hB
  have HR1 := Lib.hid hr1
  clear hB hr1
  go_wp2_with fail
  refine (HM.out v).mono ?_
  rintro e v2 ⟨rfl, hb⟩
  have hr1 := Sn.bk_below HR1.out hb (Sn.bk_lt HR1.out)
  have hB := Sn.below_next HB.out hb HB.out.size
  clear HB HR1 hb
  have HB := Lib.hid hB
  have HR1 := Lib.hid hr1
  clear hB hr1
  clear v
  rename World => v
  have c1_0 := Sn.bk_c HR1.out 0
  have c1_1 := Sn.bk_c HR1.out 1
  simp only [List.getElem?_toArray, List.getElem?_cons_zero, List.getElem?_cons_succ] at c1_0 c1_1
  have hcc := HC.out
  go_wp2_with fail
  all_goals
    go_ret
    refine ⟨Sn.ret_b ?_, HB.out⟩
    simp [*] <;> intros <;> omega

def Sn.ord (x y : Sn.S) : Int := if x.2 < y.1 then 1 else if y.2 ≤ x.1 then 0 else 2
set_option maxHeartbeats 1600000 in
theorem rorder_any (x y : Sn.S) (w : World) :
    Calls Try.prog 76 #[Sn.v x, Sn.v y] w fun e w' => e = .returned (.int .i64 (Sn.ord x y)) ∧ Below w.heap.size w w' := by
  obtain ⟨x1, x2⟩ := x
  obtain ⟨y1, y2⟩ := y
  show Calls Try.prog 76 #[.agg #[.int .u64 x1, .int .u64 x2], .agg #[.int .u64 y1, .int .u64 y2]] w _
  unfold Sn.ord
  dsimp only
  by_cases h1 : x2 < y1
  · rw [if_pos h1]
    go_enter Try.func76, Try.ntmps76
    go_wp2
    go_ret
    exact ⟨rfl, ((Below.refl _ _).alloc (Nat.le_refl _) _).alloc (by simp) _⟩
  · rw [if_neg h1]
    have hd : decide (x2 < y1) = false := by simpa using h1
    by_cases h2 : y2 ≤ x1
    · rw [if_pos h2]
      have hd2 : decide (x1 ≥ y2) = true := by simpa using h2
      go_enter Try.func76, Try.ntmps76
      go_wp2
      go_ret
      exact ⟨rfl, ((Below.refl _ _).alloc (Nat.le_refl _) _).alloc (by simp) _⟩
    · rw [if_neg h2]
      have hd2 : decide (x1 ≥ y2) = false := by simpa using h2
      go_enter Try.func76, Try.ntmps76
      go_wp2
      go_ret
      exact ⟨rfl, ((Below.refl _ _).alloc (Nat.le_refl _) _).alloc (by simp) _⟩

end Go.Proofs.Ytbjckcjfambpoaa
namespace Go.Proofs.Ytbjckcjfambpoaa
set_option linter.unusedSimpArgs false
set_option linter.unusedVariables false
open Go.RowKit Go.Maps
set_option maxRecDepth 100000

/-- What the reference tells of OpEq, OpLess, OpBelow. -/
def Sn.tru (op a : Int) (x y : Sn.S) : Int :=
  if op = 19 then (if x.2 < y.1 ∨ y.2 < x.1 then 0 else 2)
  else if op = 20 then Sn.ord x y
  else if (x.2 ≤ Wd.msk a / 2 ∧ y.2 ≤ Wd.msk a / 2) ∨ (Wd.msk a / 2 < x.1 ∧ Wd.msk a / 2 < y.1) then Sn.ord x y
  else if Wd.msk a / 2 < x.1 ∧ y.2 ≤ Wd.msk a / 2 then 1
  else if x.2 ≤ Wd.msk a / 2 ∧ Wd.msk a / 2 < y.1 then 0 else 2
theorem Sn.ord_less (x y : Sn.S) : Sn.less x y = if Sn.ord x y = 2 then (0, 1) else (Sn.ord x y, Sn.ord x y) := by
  unfold Sn.less Sn.ord
  by_cases h1 : x.2 < y.1
  · rw [if_pos h1, if_pos h1]; rfl
  · rw [if_neg h1, if_neg h1]
    by_cases h2 : y.2 ≤ x.1
    · rw [if_pos h2, if_pos h2]; rfl
    · rw [if_neg h2, if_neg h2]; rfl
theorem Sn.tru_tab (op a : Int) (x y : Sn.S) (h : op = 19 ∨ op = 20 ∨ op = 21) : Sn.tab op a x y = if Sn.tru op a x y = 2 then (0, 1) else (Sn.tru op a x y, Sn.tru op a x y) := by
  have hh : Wd.msk a / 2 = Wd.hib a - 1 := by have := Wd.pw_hib a; unfold Wd.msk; omega
  rcases h with h | h | h <;> subst h
  · show Sn.eqT x y = _
    unfold Sn.tru Sn.eqT
    rw [if_pos rfl]
    by_cases h1 : x.2 < y.1 ∨ y.2 < x.1
    · rw [if_pos h1, if_pos h1]; rfl
    · rw [if_neg h1, if_neg h1]; rfl
  · rw [show Sn.tru 20 a x y = Sn.ord x y from rfl]
    exact Sn.ord_less x y
  · rw [show Sn.tru 21 a x y = (if (x.2 ≤ Wd.msk a / 2 ∧ y.2 ≤ Wd.msk a / 2) ∨ (Wd.msk a / 2 < x.1 ∧ Wd.msk a / 2 < y.1) then Sn.ord x y
      else if Wd.msk a / 2 < x.1 ∧ y.2 ≤ Wd.msk a / 2 then 1
      else if x.2 ≤ Wd.msk a / 2 ∧ Wd.msk a / 2 < y.1 then 0 else 2) from rfl, hh]
    show Sn.below a x y = _
    unfold Sn.below
    by_cases c1 : (x.2 < Wd.hib a ∧ y.2 < Wd.hib a) ∨ (Wd.hib a ≤ x.1 ∧ Wd.hib a ≤ y.1)
    · rw [if_pos c1, if_pos (show (x.2 ≤ Wd.hib a - 1 ∧ y.2 ≤ Wd.hib a - 1) ∨ (Wd.hib a - 1 < x.1 ∧ Wd.hib a - 1 < y.1) by omega)]; exact Sn.ord_less x y
    · rw [if_neg c1, if_neg (show ¬ ((x.2 ≤ Wd.hib a - 1 ∧ y.2 ≤ Wd.hib a - 1) ∨ (Wd.hib a - 1 < x.1 ∧ Wd.hib a - 1 < y.1)) by omega)]
      by_cases c2 : Wd.hib a ≤ x.1 ∧ y.2 < Wd.hib a
      · rw [if_pos c2, if_pos (show Wd.hib a - 1 < x.1 ∧ y.2 ≤ Wd.hib a - 1 by omega)]; rfl
      · rw [if_neg c2, if_neg (show ¬ (Wd.hib a - 1 < x.1 ∧ y.2 ≤ Wd.hib a - 1) by omega)]
        by_cases c3 : x.2 < Wd.hib a ∧ Wd.hib a ≤ y.1
        · rw [if_pos c3, if_pos (show x.2 ≤ Wd.hib a - 1 ∧ Wd.hib a - 1 < y.1 by omega)]; rfl
        · rw [if_neg c3, if_neg (show ¬ (x.2 ≤ Wd.hib a - 1 ∧ Wd.hib a - 1 < y.1) by omega)]; rfl

set_option maxHeartbeats 25600000 in
theorem rtruths_any (op a : Int) (x y : Sn.S) (hop : op = 19 ∨ op = 20 ∨ op = 21) (hx : Sn.Ok a x) (hy : Sn.Ok a y) (w : World) :
    Calls Try.prog 33 #[.int .i64 op, .int .u64 (Wd.msk a), Sn.v x, Sn.v y] w fun e w' => e = .returned (.int .i64 (Sn.tru op a x y)) ∧ Below w.heap.size w w' := by
  obtain ⟨x1, x2⟩ := x
  obtain ⟨y1, y2⟩ := y
  have hm := Wd.msk_hi a
  have hx2 := hx
  have hy2 := hy
  unfold Sn.Ok at hx2 hy2
  dsimp only at hx2 hy2
  have ho := fun W => rorder_any (x1, x2) (y1, y2) W
  have HO := Lib.hid ho
  clear ho
  rcases hop with h | h | h <;> subst h
  · unfold Sn.tru
    rw [if_pos rfl]
    dsimp only
    by_cases g1 : x2 < y1
    · rw [if_pos (.inl g1)]
      show Calls Try.prog 33 #[.int .i64 19, .int .u64 (Wd.msk a), .agg #[.int .u64 x1, .int .u64 x2], .agg #[.int .u64 y1, .int .u64 y2]] w _
      go_enter Try.func33, Try.ntmps33
      go_upto_region 1 with (fail)
      have hB : Below w.heap.size w ((w.alloc (.cells #[.int .u64 x1, .int .u64 x2] 24)).alloc (.cells #[.int .u64 y1, .int .u64 y2] 24)) := (((Below.refl _ _).alloc (Nat.le_refl _) _).alloc (by simp) _)
      have hr0 : Sn.Bk ((w.alloc (.cells #[.int .u64 x1, .int .u64 x2] 24)).alloc (.cells #[.int .u64 y1, .int .u64 y2] 24)) (w.heap.size) 24 #[.int .u64 x1, .int .u64 x2] := Sn.bk_old (Sn.bk_new _ _ _) _
      have hr1 : Sn.Bk ((w.alloc (.cells #[.int .u64 x1, .int .u64 x2] 24)).alloc (.cells #[.int .u64 y1, .int .u64 y2] 24)) (w.heap.size + 1) 24 #[.int .u64 y1, .int .u64 y2] := Sn.bk_at (by simp)
      generalize ((w.alloc (.cells #[.int .u64 x1, .int .u64 x2] 24)).alloc (.cells #[.int .u64 y1, .int .u64 y2] 24)) = v at *
      have HB := Lib.hid hB
      have HR0 := Lib.hid hr0
      have HR1 := Lib.hid hr1
      clear hB hr0 hr1
      have c0_0 := Sn.bk_c HR0.out 0
      have c0_1 := Sn.bk_c HR0.out 1
      have c1_0 := Sn.bk_c HR1.out 0
      have c1_1 := Sn.bk_c HR1.out 1
      simp only [List.getElem?_toArray, List.getElem?_cons_zero, List.getElem?_cons_succ] at c0_0 c0_1 c1_0 c1_1
      go_wp2_with fail
      go_ret
      exact ⟨rfl, HB.out⟩
    · have gd1 : decide (x2 < y1) = false := by simpa using g1
      by_cases g2 : y2 < x1
      · rw [if_pos (.inr g2)]
        have gd2 : decide (y2 < x1) = true := by simpa using g2
        show Calls Try.prog 33 #[.int .i64 19, .int .u64 (Wd.msk a), .agg #[.int .u64 x1, .int .u64 x2], .agg #[.int .u64 y1, .int .u64 y2]] w _
        go_enter Try.func33, Try.ntmps33
        go_upto_region 1 with (fail)
        have hB : Below w.heap.size w ((w.alloc (.cells #[.int .u64 x1, .int .u64 x2] 24)).alloc (.cells #[.int .u64 y1, .int .u64 y2] 24)) := (((Below.refl _ _).alloc (Nat.le_refl _) _).alloc (by simp) _)
        have hr0 : Sn.Bk ((w.alloc (.cells #[.int .u64 x1, .int .u64 x2] 24)).alloc (.cells #[.int .u64 y1, .int .u64 y2] 24)) (w.heap.size) 24 #[.int .u64 x1, .int .u64 x2] := Sn.bk_old (Sn.bk_new _ _ _) _
        have hr1 : Sn.Bk ((w.alloc (.cells #[.int .u64 x1, .int .u64 x2] 24)).alloc (.cells #[.int .u64 y1, .int .u64 y2] 24)) (w.heap.size + 1) 24 #[.int .u64 y1, .int .u64 y2] := Sn.bk_at (by simp)
        generalize ((w.alloc (.cells #[.int .u64 x1, .int .u64 x2] 24)).alloc (.cells #[.int .u64 y1, .int .u64 y2] 24)) = v at *
        have HB := Lib.hid hB
        have HR0 := Lib.hid hr0
        have HR1 := Lib.hid hr1
        clear hB hr0 hr1
        have c0_0 := Sn.bk_c HR0.out 0
        have c0_1 := Sn.bk_c HR0.out 1
        have c1_0 := Sn.bk_c HR1.out 0
        have c1_1 := Sn.bk_c HR1.out 1
        simp only [List.getElem?_toArray, List.getElem?_cons_zero, List.getElem?_cons_succ] at c0_0 c0_1 c1_0 c1_1
        go_wp2_with fail
        go_ret
        exact ⟨rfl, HB.out⟩
      · rw [if_neg (fun h => h.elim g1 g2)]
        have gd2 : decide (y2 < x1) = false := by simpa using g2
        show Calls Try.prog 33 #[.int .i64 19, .int .u64 (Wd.msk a), .agg #[.int .u64 x1, .int .u64 x2], .agg #[.int .u64 y1, .int .u64 y2]] w _
        go_enter Try.func33, Try.ntmps33
        go_upto_region 1 with (fail)
        have hB : Below w.heap.size w ((w.alloc (.cells #[.int .u64 x1, .int .u64 x2] 24)).alloc (.cells #[.int .u64 y1, .int .u64 y2] 24)) := (((Below.refl _ _).alloc (Nat.le_refl _) _).alloc (by simp) _)
        have hr0 : Sn.Bk ((w.alloc (.cells #[.int .u64 x1, .int .u64 x2] 24)).alloc (.cells #[.int .u64 y1, .int .u64 y2] 24)) (w.heap.size) 24 #[.int .u64 x1, .int .u64 x2] := Sn.bk_old (Sn.bk_new _ _ _) _
        have hr1 : Sn.Bk ((w.alloc (.cells #[.int .u64 x1, .int .u64 x2] 24)).alloc (.cells #[.int .u64 y1, .int .u64 y2] 24)) (w.heap.size + 1) 24 #[.int .u64 y1, .int .u64 y2] := Sn.bk_at (by simp)
        generalize ((w.alloc (.cells #[.int .u64 x1, .int .u64 x2] 24)).alloc (.cells #[.int .u64 y1, .int .u64 y2] 24)) = v at *
        have HB := Lib.hid hB
        have HR0 := Lib.hid hr0
        have HR1 := Lib.hid hr1
        clear hB hr0 hr1
        have c0_0 := Sn.bk_c HR0.out 0
        have c0_1 := Sn.bk_c HR0.out 1
        have c1_0 := Sn.bk_c HR1.out 0
        have c1_1 := Sn.bk_c HR1.out 1
        simp only [List.getElem?_toArray, List.getElem?_cons_zero, List.getElem?_cons_succ] at c0_0 c0_1 c1_0 c1_1
        go_wp2_with fail
        go_ret
        exact ⟨rfl, HB.out⟩
  · unfold Sn.tru
    rw [if_neg (by decide), if_pos rfl]
    generalize Sn.ord (x1, x2) (y1, y2) = o at *
    show Calls Try.prog 33 #[.int .i64 20, .int .u64 (Wd.msk a), .agg #[.int .u64 x1, .int .u64 x2], .agg #[.int .u64 y1, .int .u64 y2]] w _
    go_enter Try.func33, Try.ntmps33
    go_upto_region 1 with (fail)
    have hB : Below w.heap.size w ((w.alloc (.cells #[.int .u64 x1, .int .u64 x2] 24)).alloc (.cells #[.int .u64 y1, .int .u64 y2] 24)) := (((Below.refl _ _).alloc (Nat.le_refl _) _).alloc (by simp) _)
    have hr0 : Sn.Bk ((w.alloc (.cells #[.int .u64 x1, .int .u64 x2] 24)).alloc (.cells #[.int .u64 y1, .int .u64 y2] 24)) (w.heap.size) 24 #[.int .u64 x1, .int .u64 x2] := Sn.bk_old (Sn.bk_new _ _ _) _
    have hr1 : Sn.Bk ((w.alloc (.cells #[.int .u64 x1, .int .u64 x2] 24)).alloc (.cells #[.int .u64 y1, .int .u64 y2] 24)) (w.heap.size + 1) 24 #[.int .u64 y1, .int .u64 y2] := Sn.bk_at (by simp)
    generalize ((w.alloc (.cells #[.int .u64 x1, .int .u64 x2] 24)).alloc (.cells #[.int .u64 y1, .int .u64 y2] 24)) = v at *
    have HB := Lib.hid hB
    have HR0 := Lib.hid hr0
    have HR1 := Lib.hid hr1
    clear hB hr0 hr1
    have c0_0 := Sn.bk_c HR0.out 0
    have c0_1 := Sn.bk_c HR0.out 1
    have c1_0 := Sn.bk_c HR1.out 0
    have c1_1 := Sn.bk_c HR1.out 1
    simp only [List.getElem?_toArray, List.getElem?_cons_zero, List.getElem?_cons_succ] at c0_0 c0_1 c1_0 c1_1
    go_wp2_with (first | (with_reducible refine Sn.load_sp (.tmp 6) (w.heap.size) #[.int .u64 x1, .int .u64 x2] HR0.out rfl rfl rfl rfl ?_) | (with_reducible refine Sn.load_sp (.tmp 7) (w.heap.size + 1) #[.int .u64 y1, .int .u64 y2] HR1.out rfl rfl rfl rfl ?_))
    clear c0_0 c0_1 c1_0 c1_1
    refine (HO.out v).mono ?_
    rintro e v2 ⟨rfl, hb⟩
    have hr0 := Sn.bk_below HR0.out hb (Sn.bk_lt HR0.out)
    have hr1 := Sn.bk_below HR1.out hb (Sn.bk_lt HR1.out)
    have hB := Sn.below_next HB.out hb HB.out.size
    clear HB HR0 HR1 hb
    have HB := Lib.hid hB
    have HR0 := Lib.hid hr0
    have HR1 := Lib.hid hr1
    clear hB hr0 hr1
    clear v
    rename World => v
    go_wp2_with fail
    go_ret
    exact ⟨rfl, HB.out⟩
  · unfold Sn.tru
    rw [if_neg (show ¬ (21 : Int) = 19 by decide), if_neg (show ¬ (21 : Int) = 20 by decide)]
    dsimp only
    have hm1 := Wd.msk_lo a
    by_cases gx1 : x2 ≤ Wd.msk a / 2
    · by_cases gy1 : y2 ≤ Wd.msk a / 2
      · rw [if_pos (by omega)]
        generalize Sn.ord (x1, x2) (y1, y2) = o at *
        have kx1 : x2 ≤ Wd.msk a / 2 := by omega
        have kx2 : ¬ x1 > Wd.msk a / 2 := by omega
        have ky1 : y2 ≤ Wd.msk a / 2 := by omega
        have ky2 : ¬ y1 > Wd.msk a / 2 := by omega
        show Calls Try.prog 33 #[.int .i64 21, .int .u64 (Wd.msk a), .agg #[.int .u64 x1, .int .u64 x2], .agg #[.int .u64 y1, .int .u64 y2]] w _
        go_enter Try.func33, Try.ntmps33
        go_upto_region 1 with (fail)
        have hB : Below w.heap.size w ((w.alloc (.cells #[.int .u64 x1, .int .u64 x2] 24)).alloc (.cells #[.int .u64 y1, .int .u64 y2] 24)) := (((Below.refl _ _).alloc (Nat.le_refl _) _).alloc (by simp) _)
        have hr0 : Sn.Bk ((w.alloc (.cells #[.int .u64 x1, .int .u64 x2] 24)).alloc (.cells #[.int .u64 y1, .int .u64 y2] 24)) (w.heap.size) 24 #[.int .u64 x1, .int .u64 x2] := Sn.bk_old (Sn.bk_new _ _ _) _
        have hr1 : Sn.Bk ((w.alloc (.cells #[.int .u64 x1, .int .u64 x2] 24)).alloc (.cells #[.int .u64 y1, .int .u64 y2] 24)) (w.heap.size + 1) 24 #[.int .u64 y1, .int .u64 y2] := Sn.bk_at (by simp)
        generalize ((w.alloc (.cells #[.int .u64 x1, .int .u64 x2] 24)).alloc (.cells #[.int .u64 y1, .int .u64 y2] 24)) = v at *
        have HB := Lib.hid hB
        have HR0 := Lib.hid hr0
        have HR1 := Lib.hid hr1
        clear hB hr0 hr1
        have c0_0 := Sn.bk_c HR0.out 0
        have c0_1 := Sn.bk_c HR0.out 1
        have c1_0 := Sn.bk_c HR1.out 0
        have c1_1 := Sn.bk_c HR1.out 1
        simp only [List.getElem?_toArray, List.getElem?_cons_zero, List.getElem?_cons_succ] at c0_0 c0_1 c1_0 c1_1
        go_wp2_with fail
        clear c0_0 c0_1 c1_0 c1_1
        refine qc_all (fun W => Below v.heap.size v W) (by kernel_rfl) (by kernel_rfl) (Below.refl _ _).drew ?_
        refine qc_take (.pointer (some ⟨w.heap.size, 1, none⟩)) (by rfl) (fun W (hW : Below _ _ W) => ?_) ?_
        · skip
          go_simp
        try simp only [Act.put, List.setIfInBounds_toArray, List.set_cons_zero, List.set_cons_succ]
        refine qc_take (.int .u64 x2) (by rfl) (fun W (hW : Below _ _ W) => ?_) ?_
        · skip
          obtain ⟨y0, y1⟩ := Sn.c2 HR0.out hW
          go_simp
        try simp only [Act.put, List.setIfInBounds_toArray, List.set_cons_zero, List.set_cons_succ]
        refine qc_take (.int .u64 (Wd.msk a / 2)) (by rfl) (fun W (hW : Below _ _ W) => ?_) ?_
        · skip
          go_simp
        try simp only [Act.put, List.setIfInBounds_toArray, List.set_cons_zero, List.set_cons_succ]
        refine qc_take (.bool true) (by rfl) (fun W (hW : Below _ _ W) => ?_) ?_
        · skip
          go_simp
        try simp only [Act.put, List.setIfInBounds_toArray, List.set_cons_zero, List.set_cons_succ]
        refine qc_take (.pointer (some ⟨w.heap.size + 1, 1, none⟩)) (by rfl) (fun W (hW : Below _ _ W) => ?_) ?_
        · skip
          go_simp
        try simp only [Act.put, List.setIfInBounds_toArray, List.set_cons_zero, List.set_cons_succ]
        refine qc_take (.int .u64 y2) (by rfl) (fun W (hW : Below _ _ W) => ?_) ?_
        · skip
          obtain ⟨y0, y1⟩ := Sn.c2 HR1.out hW
          go_simp
        try simp only [Act.put, List.setIfInBounds_toArray, List.set_cons_zero, List.set_cons_succ]
        refine qc_take (.int .u64 (Wd.msk a / 2)) (by rfl) (fun W (hW : Below _ _ W) => ?_) ?_
        · skip
          go_simp
        try simp only [Act.put, List.setIfInBounds_toArray, List.set_cons_zero, List.set_cons_succ]
        refine qc_take (.bool true) (by rfl) (fun W (hW : Below _ _ W) => ?_) ?_
        · skip
          go_simp
        try simp only [Act.put, List.setIfInBounds_toArray, List.set_cons_zero, List.set_cons_succ]
        refine qc_take (.bool true) (by rfl) (fun W (hW : Below _ _ W) => ?_) ?_
        · skip
          go_simp
        try simp only [Act.put, List.setIfInBounds_toArray, List.set_cons_zero, List.set_cons_succ]
        refine qc_take (.bool true) (by rfl) (fun W (hW : Below _ _ W) => ?_) ?_
        · skip
          go_simp
        try simp only [Act.put, List.setIfInBounds_toArray, List.set_cons_zero, List.set_cons_succ]
        refine wpQuiet_nil ?_
        intro v2 hb
        have hr0 := Sn.bk_below HR0.out hb (Sn.bk_lt HR0.out)
        have hr1 := Sn.bk_below HR1.out hb (Sn.bk_lt HR1.out)
        have hB := Sn.below_next HB.out hb HB.out.size
        clear HB HR0 HR1 hb
        have HB := Lib.hid hB
        have HR0 := Lib.hid hr0
        have HR1 := Lib.hid hr1
        clear hB hr0 hr1
        clear v
        rename World => v
        go_wp2_with fail
        refine qc_all (fun W => Below v.heap.size v W) (by kernel_rfl) (by kernel_rfl) (Below.refl _ _).drew ?_
        refine qc_take (.pointer (some ⟨w.heap.size, 0, none⟩)) (by rfl) (fun W (hW : Below _ _ W) => ?_) ?_
        · skip
          go_simp
        try simp only [Act.put, List.setIfInBounds_toArray, List.set_cons_zero, List.set_cons_succ]
        refine qc_take (.int .u64 x1) (by rfl) (fun W (hW : Below _ _ W) => ?_) ?_
        · skip
          obtain ⟨y0, y1⟩ := Sn.c2 HR0.out hW
          go_simp
        try simp only [Act.put, List.setIfInBounds_toArray, List.set_cons_zero, List.set_cons_succ]
        refine qc_take (.int .u64 (Wd.msk a / 2)) (by rfl) (fun W (hW : Below _ _ W) => ?_) ?_
        · skip
          go_simp
        try simp only [Act.put, List.setIfInBounds_toArray, List.set_cons_zero, List.set_cons_succ]
        refine qc_take (.bool false) (by rfl) (fun W (hW : Below _ _ W) => ?_) ?_
        · skip
          go_simp
        try simp only [Act.put, List.setIfInBounds_toArray, List.set_cons_zero, List.set_cons_succ]
        refine qc_take (.pointer (some ⟨w.heap.size + 1, 0, none⟩)) (by rfl) (fun W (hW : Below _ _ W) => ?_) ?_
        · skip
          go_simp
        try simp only [Act.put, List.setIfInBounds_toArray, List.set_cons_zero, List.set_cons_succ]
        refine qc_take (.int .u64 y1) (by rfl) (fun W (hW : Below _ _ W) => ?_) ?_
        · skip
          obtain ⟨y0, y1⟩ := Sn.c2 HR1.out hW
          go_simp
        try simp only [Act.put, List.setIfInBounds_toArray, List.set_cons_zero, List.set_cons_succ]
        refine qc_take (.int .u64 (Wd.msk a / 2)) (by rfl) (fun W (hW : Below _ _ W) => ?_) ?_
        · skip
          go_simp
        try simp only [Act.put, List.setIfInBounds_toArray, List.set_cons_zero, List.set_cons_succ]
        refine qc_take (.bool false) (by rfl) (fun W (hW : Below _ _ W) => ?_) ?_
        · skip
          go_simp
        try simp only [Act.put, List.setIfInBounds_toArray, List.set_cons_zero, List.set_cons_succ]
        refine qc_take (.bool false) (by rfl) (fun W (hW : Below _ _ W) => ?_) ?_
        · skip
          go_simp
        try simp only [Act.put, List.setIfInBounds_toArray, List.set_cons_zero, List.set_cons_succ]
        refine qc_take (.bool false) (by rfl) (fun W (hW : Below _ _ W) => ?_) ?_
        · skip
          go_simp
        try simp only [Act.put, List.setIfInBounds_toArray, List.set_cons_zero, List.set_cons_succ]
        refine wpQuiet_nil ?_
        intro v2 hb
        have hr0 := Sn.bk_below HR0.out hb (Sn.bk_lt HR0.out)
        have hr1 := Sn.bk_below HR1.out hb (Sn.bk_lt HR1.out)
        have hB := Sn.below_next HB.out hb HB.out.size
        clear HB HR0 HR1 hb
        have HB := Lib.hid hB
        have HR0 := Lib.hid hr0
        have HR1 := Lib.hid hr1
        clear hB hr0 hr1
        clear v
        rename World => v
        go_wp2_with (first | (with_reducible refine Sn.load_sp (.tmp 6) (w.heap.size) #[.int .u64 x1, .int .u64 x2] HR0.out rfl rfl rfl rfl ?_) | (with_reducible refine Sn.load_sp (.tmp 7) (w.heap.size + 1) #[.int .u64 y1, .int .u64 y2] HR1.out rfl rfl rfl rfl ?_))
        refine (HO.out v).mono ?_
        rintro e v2 ⟨rfl, hb⟩
        have hr0 := Sn.bk_below HR0.out hb (Sn.bk_lt HR0.out)
        have hr1 := Sn.bk_below HR1.out hb (Sn.bk_lt HR1.out)
        have hB := Sn.below_next HB.out hb HB.out.size
        clear HB HR0 HR1 hb
        have HB := Lib.hid hB
        have HR0 := Lib.hid hr0
        have HR1 := Lib.hid hr1
        clear hB hr0 hr1
        clear v
        rename World => v
        go_wp2_with fail
        go_ret
        exact ⟨rfl, HB.out⟩
      · by_cases gy2 : y1 > Wd.msk a / 2
        · rw [if_neg (by omega), if_neg (by omega), if_pos (by omega)]
          have kx1 : x2 ≤ Wd.msk a / 2 := by omega
          have kx2 : ¬ x1 > Wd.msk a / 2 := by omega
          have ky1 : ¬ y2 ≤ Wd.msk a / 2 := by omega
          have ky2 : y1 > Wd.msk a / 2 := by omega
          show Calls Try.prog 33 #[.int .i64 21, .int .u64 (Wd.msk a), .agg #[.int .u64 x1, .int .u64 x2], .agg #[.int .u64 y1, .int .u64 y2]] w _
          go_enter Try.func33, Try.ntmps33
          go_upto_region 1 with (fail)
          have hB : Below w.heap.size w ((w.alloc (.cells #[.int .u64 x1, .int .u64 x2] 24)).alloc (.cells #[.int .u64 y1, .int .u64 y2] 24)) := (((Below.refl _ _).alloc (Nat.le_refl _) _).alloc (by simp) _)
          have hr0 : Sn.Bk ((w.alloc (.cells #[.int .u64 x1, .int .u64 x2] 24)).alloc (.cells #[.int .u64 y1, .int .u64 y2] 24)) (w.heap.size) 24 #[.int .u64 x1, .int .u64 x2] := Sn.bk_old (Sn.bk_new _ _ _) _
          have hr1 : Sn.Bk ((w.alloc (.cells #[.int .u64 x1, .int .u64 x2] 24)).alloc (.cells #[.int .u64 y1, .int .u64 y2] 24)) (w.heap.size + 1) 24 #[.int .u64 y1, .int .u64 y2] := Sn.bk_at (by simp)
          generalize ((w.alloc (.cells #[.int .u64 x1, .int .u64 x2] 24)).alloc (.cells #[.int .u64 y1, .int .u64 y2] 24)) = v at *
          have HB := Lib.hid hB
          have HR0 := Lib.hid hr0
          have HR1 := Lib.hid hr1
          clear hB hr0 hr1
          have c0_0 := Sn.bk_c HR0.out 0
          have c0_1 := Sn.bk_c HR0.out 1
          have c1_0 := Sn.bk_c HR1.out 0
          have c1_1 := Sn.bk_c HR1.out 1
          simp only [List.getElem?_toArray, List.getElem?_cons_zero, List.getElem?_cons_succ] at c0_0 c0_1 c1_0 c1_1
          go_wp2_with fail
          clear c0_0 c0_1 c1_0 c1_1
          refine qc_all (fun W => Below v.heap.size v W) (by kernel_rfl) (by kernel_rfl) (Below.refl _ _).drew ?_
          refine qc_take (.pointer (some ⟨w.heap.size, 1, none⟩)) (by rfl) (fun W (hW : Below _ _ W) => ?_) ?_
          · skip
            go_simp
          try simp only [Act.put, List.setIfInBounds_toArray, List.set_cons_zero, List.set_cons_succ]
          refine qc_take (.int .u64 x2) (by rfl) (fun W (hW : Below _ _ W) => ?_) ?_
          · skip
            obtain ⟨y0, y1⟩ := Sn.c2 HR0.out hW
            go_simp
          try simp only [Act.put, List.setIfInBounds_toArray, List.set_cons_zero, List.set_cons_succ]
          refine qc_take (.int .u64 (Wd.msk a / 2)) (by rfl) (fun W (hW : Below _ _ W) => ?_) ?_
          · skip
            go_simp
          try simp only [Act.put, List.setIfInBounds_toArray, List.set_cons_zero, List.set_cons_succ]
          refine qc_take (.bool true) (by rfl) (fun W (hW : Below _ _ W) => ?_) ?_
          · skip
            go_simp
          try simp only [Act.put, List.setIfInBounds_toArray, List.set_cons_zero, List.set_cons_succ]
          refine qc_take (.pointer (some ⟨w.heap.size + 1, 1, none⟩)) (by rfl) (fun W (hW : Below _ _ W) => ?_) ?_
          · skip
            go_simp
          try simp only [Act.put, List.setIfInBounds_toArray, List.set_cons_zero, List.set_cons_succ]
          refine qc_take (.int .u64 y2) (by rfl) (fun W (hW : Below _ _ W) => ?_) ?_
          · skip
            obtain ⟨y0, y1⟩ := Sn.c2 HR1.out hW
            go_simp
          try simp only [Act.put, List.setIfInBounds_toArray, List.set_cons_zero, List.set_cons_succ]
          refine qc_take (.int .u64 (Wd.msk a / 2)) (by rfl) (fun W (hW : Below _ _ W) => ?_) ?_
          · skip
            go_simp
          try simp only [Act.put, List.setIfInBounds_toArray, List.set_cons_zero, List.set_cons_succ]
          refine qc_take (.bool false) (by rfl) (fun W (hW : Below _ _ W) => ?_) ?_
          · skip
            go_simp
          try simp only [Act.put, List.setIfInBounds_toArray, List.set_cons_zero, List.set_cons_succ]
          refine qc_take (.bool true) (by rfl) (fun W (hW : Below _ _ W) => ?_) ?_
          · skip
            go_simp
          try simp only [Act.put, List.setIfInBounds_toArray, List.set_cons_zero, List.set_cons_succ]
          refine qc_take (.bool false) (by rfl) (fun W (hW : Below _ _ W) => ?_) ?_
          · skip
            go_simp
          try simp only [Act.put, List.setIfInBounds_toArray, List.set_cons_zero, List.set_cons_succ]
          refine wpQuiet_nil ?_
          intro v2 hb
          have hr0 := Sn.bk_below HR0.out hb (Sn.bk_lt HR0.out)
          have hr1 := Sn.bk_below HR1.out hb (Sn.bk_lt HR1.out)
          have hB := Sn.below_next HB.out hb HB.out.size
          clear HB HR0 HR1 hb
          have HB := Lib.hid hB
          have HR0 := Lib.hid hr0
          have HR1 := Lib.hid hr1
          clear hB hr0 hr1
          clear v
          rename World => v
          go_wp2_with fail
          refine qc_all (fun W => Below v.heap.size v W) (by kernel_rfl) (by kernel_rfl) (Below.refl _ _).drew ?_
          refine qc_take (.pointer (some ⟨w.heap.size, 0, none⟩)) (by rfl) (fun W (hW : Below _ _ W) => ?_) ?_
          · skip
            go_simp
          try simp only [Act.put, List.setIfInBounds_toArray, List.set_cons_zero, List.set_cons_succ]
          refine qc_take (.int .u64 x1) (by rfl) (fun W (hW : Below _ _ W) => ?_) ?_
          · skip
            obtain ⟨y0, y1⟩ := Sn.c2 HR0.out hW
            go_simp
          try simp only [Act.put, List.setIfInBounds_toArray, List.set_cons_zero, List.set_cons_succ]
          refine qc_take (.int .u64 (Wd.msk a / 2)) (by rfl) (fun W (hW : Below _ _ W) => ?_) ?_
          · skip
            go_simp
          try simp only [Act.put, List.setIfInBounds_toArray, List.set_cons_zero, List.set_cons_succ]
          refine qc_take (.bool false) (by rfl) (fun W (hW : Below _ _ W) => ?_) ?_
          · skip
            go_simp
          try simp only [Act.put, List.setIfInBounds_toArray, List.set_cons_zero, List.set_cons_succ]
          refine qc_take (.pointer (some ⟨w.heap.size + 1, 0, none⟩)) (by rfl) (fun W (hW : Below _ _ W) => ?_) ?_
          · skip
            go_simp
          try simp only [Act.put, List.setIfInBounds_toArray, List.set_cons_zero, List.set_cons_succ]
          refine qc_take (.int .u64 y1) (by rfl) (fun W (hW : Below _ _ W) => ?_) ?_
          · skip
            obtain ⟨y0, y1⟩ := Sn.c2 HR1.out hW
            go_simp
          try simp only [Act.put, List.setIfInBounds_toArray, List.set_cons_zero, List.set_cons_succ]
          refine qc_take (.int .u64 (Wd.msk a / 2)) (by rfl) (fun W (hW : Below _ _ W) => ?_) ?_
          · skip
            go_simp
          try simp only [Act.put, List.setIfInBounds_toArray, List.set_cons_zero, List.set_cons_succ]
          refine qc_take (.bool true) (by rfl) (fun W (hW : Below _ _ W) => ?_) ?_
          · skip
            go_simp
          try simp only [Act.put, List.setIfInBounds_toArray, List.set_cons_zero, List.set_cons_succ]
          refine qc_take (.bool false) (by rfl) (fun W (hW : Below _ _ W) => ?_) ?_
          · skip
            go_simp
          try simp only [Act.put, List.setIfInBounds_toArray, List.set_cons_zero, List.set_cons_succ]
          refine qc_take (.bool true) (by rfl) (fun W (hW : Below _ _ W) => ?_) ?_
          · skip
            go_simp
          try simp only [Act.put, List.setIfInBounds_toArray, List.set_cons_zero, List.set_cons_succ]
          refine wpQuiet_nil ?_
          intro v2 hb
          have hr0 := Sn.bk_below HR0.out hb (Sn.bk_lt HR0.out)
          have hr1 := Sn.bk_below HR1.out hb (Sn.bk_lt HR1.out)
          have hB := Sn.below_next HB.out hb HB.out.size
          clear HB HR0 HR1 hb
          have HB := Lib.hid hB
          have HR0 := Lib.hid hr0
          have HR1 := Lib.hid hr1
          clear hB hr0 hr1
          clear v
          rename World => v
          go_wp2_with fail
          go_ret
          exact ⟨rfl, HB.out⟩
        · rw [if_neg (by omega), if_neg (by omega), if_neg (by omega)]
          have kx1 : x2 ≤ Wd.msk a / 2 := by omega
          have kx2 : ¬ x1 > Wd.msk a / 2 := by omega
          have ky1 : ¬ y2 ≤ Wd.msk a / 2 := by omega
          have ky2 : ¬ y1 > Wd.msk a / 2 := by omega
          show Calls Try.prog 33 #[.int .i64 21, .int .u64 (Wd.msk a), .agg #[.int .u64 x1, .int .u64 x2], .agg #[.int .u64 y1, .int .u64 y2]] w _
          go_enter Try.func33, Try.ntmps33
          go_upto_region 1 with (fail)
          have hB : Below w.heap.size w ((w.alloc (.cells #[.int .u64 x1, .int .u64 x2] 24)).alloc (.cells #[.int .u64 y1, .int .u64 y2] 24)) := (((Below.refl _ _).alloc (Nat.le_refl _) _).alloc (by simp) _)
          have hr0 : Sn.Bk ((w.alloc (.cells #[.int .u64 x1, .int .u64 x2] 24)).alloc (.cells #[.int .u64 y1, .int .u64 y2] 24)) (w.heap.size) 24 #[.int .u64 x1, .int .u64 x2] := Sn.bk_old (Sn.bk_new _ _ _) _
          have hr1 : Sn.Bk ((w.alloc (.cells #[.int .u64 x1, .int .u64 x2] 24)).alloc (.cells #[.int .u64 y1, .int .u64 y2] 24)) (w.heap.size + 1) 24 #[.int .u64 y1, .int .u64 y2] := Sn.bk_at (by simp)
          generalize ((w.alloc (.cells #[.int .u64 x1, .int .u64 x2] 24)).alloc (.cells #[.int .u64 y1, .int .u64 y2] 24)) = v at *
          have HB := Lib.hid hB
          have HR0 := Lib.hid hr0
          have HR1 := Lib.hid hr1
          clear hB hr0 hr1
          have c0_0 := Sn.bk_c HR0.out 0
          have c0_1 := Sn.bk_c HR0.out 1
          have c1_0 := Sn.bk_c HR1.out 0
          have c1_1 := Sn.bk_c HR1.out 1
          simp only [List.getElem?_toArray, List.getElem?_cons_zero, List.getElem?_cons_succ] at c0_0 c0_1 c1_0 c1_1
          go_wp2_with fail
          clear c0_0 c0_1 c1_0 c1_1
          refine qc_all (fun W => Below v.heap.size v W) (by kernel_rfl) (by kernel_rfl) (Below.refl _ _).drew ?_
          refine qc_take (.pointer (some ⟨w.heap.size, 1, none⟩)) (by rfl) (fun W (hW : Below _ _ W) => ?_) ?_
          · skip
            go_simp
          try simp only [Act.put, List.setIfInBounds_toArray, List.set_cons_zero, List.set_cons_succ]
          refine qc_take (.int .u64 x2) (by rfl) (fun W (hW : Below _ _ W) => ?_) ?_
          · skip
            obtain ⟨y0, y1⟩ := Sn.c2 HR0.out hW
            go_simp
          try simp only [Act.put, List.setIfInBounds_toArray, List.set_cons_zero, List.set_cons_succ]
          refine qc_take (.int .u64 (Wd.msk a / 2)) (by rfl) (fun W (hW : Below _ _ W) => ?_) ?_
          · skip
            go_simp
          try simp only [Act.put, List.setIfInBounds_toArray, List.set_cons_zero, List.set_cons_succ]
          refine qc_take (.bool true) (by rfl) (fun W (hW : Below _ _ W) => ?_) ?_
          · skip
            go_simp
          try simp only [Act.put, List.setIfInBounds_toArray, List.set_cons_zero, List.set_cons_succ]
          refine qc_take (.pointer (some ⟨w.heap.size + 1, 1, none⟩)) (by rfl) (fun W (hW : Below _ _ W) => ?_) ?_
          · skip
            go_simp
          try simp only [Act.put, List.setIfInBounds_toArray, List.set_cons_zero, List.set_cons_succ]
          refine qc_take (.int .u64 y2) (by rfl) (fun W (hW : Below _ _ W) => ?_) ?_
          · skip
            obtain ⟨y0, y1⟩ := Sn.c2 HR1.out hW
            go_simp
          try simp only [Act.put, List.setIfInBounds_toArray, List.set_cons_zero, List.set_cons_succ]
          refine qc_take (.int .u64 (Wd.msk a / 2)) (by rfl) (fun W (hW : Below _ _ W) => ?_) ?_
          · skip
            go_simp
          try simp only [Act.put, List.setIfInBounds_toArray, List.set_cons_zero, List.set_cons_succ]
          refine qc_take (.bool false) (by rfl) (fun W (hW : Below _ _ W) => ?_) ?_
          · skip
            go_simp
          try simp only [Act.put, List.setIfInBounds_toArray, List.set_cons_zero, List.set_cons_succ]
          refine qc_take (.bool true) (by rfl) (fun W (hW : Below _ _ W) => ?_) ?_
          · skip
            go_simp
          try simp only [Act.put, List.setIfInBounds_toArray, List.set_cons_zero, List.set_cons_succ]
          refine qc_take (.bool false) (by rfl) (fun W (hW : Below _ _ W) => ?_) ?_
          · skip
            go_simp
          try simp only [Act.put, List.setIfInBounds_toArray, List.set_cons_zero, List.set_cons_succ]
          refine wpQuiet_nil ?_
          intro v2 hb
          have hr0 := Sn.bk_below HR0.out hb (Sn.bk_lt HR0.out)
          have hr1 := Sn.bk_below HR1.out hb (Sn.bk_lt HR1.out)
          have hB := Sn.below_next HB.out hb HB.out.size
          clear HB HR0 HR1 hb
          have HB := Lib.hid hB
          have HR0 := Lib.hid hr0
          have HR1 := Lib.hid hr1
          clear hB hr0 hr1
          clear v
          rename World => v
          go_wp2_with fail
          refine qc_all (fun W => Below v.heap.size v W) (by kernel_rfl) (by kernel_rfl) (Below.refl _ _).drew ?_
          refine qc_take (.pointer (some ⟨w.heap.size, 0, none⟩)) (by rfl) (fun W (hW : Below _ _ W) => ?_) ?_
          · skip
            go_simp
          try simp only [Act.put, List.setIfInBounds_toArray, List.set_cons_zero, List.set_cons_succ]
          refine qc_take (.int .u64 x1) (by rfl) (fun W (hW : Below _ _ W) => ?_) ?_
          · skip
            obtain ⟨y0, y1⟩ := Sn.c2 HR0.out hW
            go_simp
          try simp only [Act.put, List.setIfInBounds_toArray, List.set_cons_zero, List.set_cons_succ]
          refine qc_take (.int .u64 (Wd.msk a / 2)) (by rfl) (fun W (hW : Below _ _ W) => ?_) ?_
          · skip
            go_simp
          try simp only [Act.put, List.setIfInBounds_toArray, List.set_cons_zero, List.set_cons_succ]
          refine qc_take (.bool false) (by rfl) (fun W (hW : Below _ _ W) => ?_) ?_
          · skip
            go_simp
          try simp only [Act.put, List.setIfInBounds_toArray, List.set_cons_zero, List.set_cons_succ]
          refine qc_take (.pointer (some ⟨w.heap.size + 1, 0, none⟩)) (by rfl) (fun W (hW : Below _ _ W) => ?_) ?_
          · skip
            go_simp
          try simp only [Act.put, List.setIfInBounds_toArray, List.set_cons_zero, List.set_cons_succ]
          refine qc_take (.int .u64 y1) (by rfl) (fun W (hW : Below _ _ W) => ?_) ?_
          · skip
            obtain ⟨y0, y1⟩ := Sn.c2 HR1.out hW
            go_simp
          try simp only [Act.put, List.setIfInBounds_toArray, List.set_cons_zero, List.set_cons_succ]
          refine qc_take (.int .u64 (Wd.msk a / 2)) (by rfl) (fun W (hW : Below _ _ W) => ?_) ?_
          · skip
            go_simp
          try simp only [Act.put, List.setIfInBounds_toArray, List.set_cons_zero, List.set_cons_succ]
          refine qc_take (.bool false) (by rfl) (fun W (hW : Below _ _ W) => ?_) ?_
          · skip
            go_simp
          try simp only [Act.put, List.setIfInBounds_toArray, List.set_cons_zero, List.set_cons_succ]
          refine qc_take (.bool false) (by rfl) (fun W (hW : Below _ _ W) => ?_) ?_
          · skip
            go_simp
          try simp only [Act.put, List.setIfInBounds_toArray, List.set_cons_zero, List.set_cons_succ]
          refine qc_take (.bool false) (by rfl) (fun W (hW : Below _ _ W) => ?_) ?_
          · skip
            go_simp
          try simp only [Act.put, List.setIfInBounds_toArray, List.set_cons_zero, List.set_cons_succ]
          refine wpQuiet_nil ?_
          intro v2 hb
          have hr0 := Sn.bk_below HR0.out hb (Sn.bk_lt HR0.out)
          have hr1 := Sn.bk_below HR1.out hb (Sn.bk_lt HR1.out)
          have hB := Sn.below_next HB.out hb HB.out.size
          clear HB HR0 HR1 hb
          have HB := Lib.hid hB
          have HR0 := Lib.hid hr0
          have HR1 := Lib.hid hr1
          clear hB hr0 hr1
          clear v
          rename World => v
          go_wp2_with fail
          go_ret
          exact ⟨rfl, HB.out⟩
    · by_cases gx2 : x1 > Wd.msk a / 2
      · by_cases gy1 : y2 ≤ Wd.msk a / 2
        · rw [if_neg (by omega), if_pos (by omega)]
          have kx1 : ¬ x2 ≤ Wd.msk a / 2 := by omega
          have kx2 : x1 > Wd.msk a / 2 := by omega
          have ky1 : y2 ≤ Wd.msk a / 2 := by omega
          have ky2 : ¬ y1 > Wd.msk a / 2 := by omega
          show Calls Try.prog 33 #[.int .i64 21, .int .u64 (Wd.msk a), .agg #[.int .u64 x1, .int .u64 x2], .agg #[.int .u64 y1, .int .u64 y2]] w _
          go_enter Try.func33, Try.ntmps33
          go_upto_region 1 with (fail)
          have hB : Below w.heap.size w ((w.alloc (.cells #[.int .u64 x1, .int .u64 x2] 24)).alloc (.cells #[.int .u64 y1, .int .u64 y2] 24)) := (((Below.refl _ _).alloc (Nat.le_refl _) _).alloc (by simp) _)
          have hr0 : Sn.Bk ((w.alloc (.cells #[.int .u64 x1, .int .u64 x2] 24)).alloc (.cells #[.int .u64 y1, .int .u64 y2] 24)) (w.heap.size) 24 #[.int .u64 x1, .int .u64 x2] := Sn.bk_old (Sn.bk_new _ _ _) _
          have hr1 : Sn.Bk ((w.alloc (.cells #[.int .u64 x1, .int .u64 x2] 24)).alloc (.cells #[.int .u64 y1, .int .u64 y2] 24)) (w.heap.size + 1) 24 #[.int .u64 y1, .int .u64 y2] := Sn.bk_at (by simp)
          generalize ((w.alloc (.cells #[.int .u64 x1, .int .u64 x2] 24)).alloc (.cells #[.int .u64 y1, .int .u64 y2] 24)) = v at *
          have HB := Lib.hid hB
          have HR0 := Lib.hid hr0
          have HR1 := Lib.hid hr1
          clear hB hr0 hr1
          have c0_0 := Sn.bk_c HR0.out 0
          have c0_1 := Sn.bk_c HR0.out 1
          have c1_0 := Sn.bk_c HR1.out 0
          have c1_1 := Sn.bk_c HR1.out 1
          simp only [List.getElem?_toArray, List.getElem?_cons_zero, List.getElem?_cons_succ] at c0_0 c0_1 c1_0 c1_1
          go_wp2_with fail
          clear c0_0 c0_1 c1_0 c1_1
          refine qc_all (fun W => Below v.heap.size v W) (by kernel_rfl) (by kernel_rfl) (Below.refl _ _).drew ?_
          refine qc_take (.pointer (some ⟨w.heap.size, 1, none⟩)) (by rfl) (fun W (hW : Below _ _ W) => ?_) ?_
          · skip
            go_simp
          try simp only [Act.put, List.setIfInBounds_toArray, List.set_cons_zero, List.set_cons_succ]
          refine qc_take (.int .u64 x2) (by rfl) (fun W (hW : Below _ _ W) => ?_) ?_
          · skip
            obtain ⟨y0, y1⟩ := Sn.c2 HR0.out hW
            go_simp
          try simp only [Act.put, List.setIfInBounds_toArray, List.set_cons_zero, List.set_cons_succ]
          refine qc_take (.int .u64 (Wd.msk a / 2)) (by rfl) (fun W (hW : Below _ _ W) => ?_) ?_
          · skip
            go_simp
          try simp only [Act.put, List.setIfInBounds_toArray, List.set_cons_zero, List.set_cons_succ]
          refine qc_take (.bool false) (by rfl) (fun W (hW : Below _ _ W) => ?_) ?_
          · skip
            go_simp
          try simp only [Act.put, List.setIfInBounds_toArray, List.set_cons_zero, List.set_cons_succ]
          refine qc_take (.pointer (some ⟨w.heap.size + 1, 1, none⟩)) (by rfl) (fun W (hW : Below _ _ W) => ?_) ?_
          · skip
            go_simp
          try simp only [Act.put, List.setIfInBounds_toArray, List.set_cons_zero, List.set_cons_succ]
          refine qc_take (.int .u64 y2) (by rfl) (fun W (hW : Below _ _ W) => ?_) ?_
          · skip
            obtain ⟨y0, y1⟩ := Sn.c2 HR1.out hW
            go_simp
          try simp only [Act.put, List.setIfInBounds_toArray, List.set_cons_zero, List.set_cons_succ]
          refine qc_take (.int .u64 (Wd.msk a / 2)) (by rfl) (fun W (hW : Below _ _ W) => ?_) ?_
          · skip
            go_simp
          try simp only [Act.put, List.setIfInBounds_toArray, List.set_cons_zero, List.set_cons_succ]
          refine qc_take (.bool true) (by rfl) (fun W (hW : Below _ _ W) => ?_) ?_
          · skip
            go_simp
          try simp only [Act.put, List.setIfInBounds_toArray, List.set_cons_zero, List.set_cons_succ]
          refine qc_take (.bool false) (by rfl) (fun W (hW : Below _ _ W) => ?_) ?_
          · skip
            go_simp
          try simp only [Act.put, List.setIfInBounds_toArray, List.set_cons_zero, List.set_cons_succ]
          refine qc_take (.bool true) (by rfl) (fun W (hW : Below _ _ W) => ?_) ?_
          · skip
            go_simp
          try simp only [Act.put, List.setIfInBounds_toArray, List.set_cons_zero, List.set_cons_succ]
          refine wpQuiet_nil ?_
          intro v2 hb
          have hr0 := Sn.bk_below HR0.out hb (Sn.bk_lt HR0.out)
          have hr1 := Sn.bk_below HR1.out hb (Sn.bk_lt HR1.out)
          have hB := Sn.below_next HB.out hb HB.out.size
          clear HB HR0 HR1 hb
          have HB := Lib.hid hB
          have HR0 := Lib.hid hr0
          have HR1 := Lib.hid hr1
          clear hB hr0 hr1
          clear v
          rename World => v
          go_wp2_with fail
          refine qc_all (fun W => Below v.heap.size v W) (by kernel_rfl) (by kernel_rfl) (Below.refl _ _).drew ?_
          refine qc_take (.pointer (some ⟨w.heap.size, 0, none⟩)) (by rfl) (fun W (hW : Below _ _ W) => ?_) ?_
          · skip
            go_simp
          try simp only [Act.put, List.setIfInBounds_toArray, List.set_cons_zero, List.set_cons_succ]
          refine qc_take (.int .u64 x1) (by rfl) (fun W (hW : Below _ _ W) => ?_) ?_
          · skip
            obtain ⟨y0, y1⟩ := Sn.c2 HR0.out hW
            go_simp
          try simp only [Act.put, List.setIfInBounds_toArray, List.set_cons_zero, List.set_cons_succ]
          refine qc_take (.int .u64 (Wd.msk a / 2)) (by rfl) (fun W (hW : Below _ _ W) => ?_) ?_
          · skip
            go_simp
          try simp only [Act.put, List.setIfInBounds_toArray, List.set_cons_zero, List.set_cons_succ]
          refine qc_take (.bool true) (by rfl) (fun W (hW : Below _ _ W) => ?_) ?_
          · skip
            go_simp
          try simp only [Act.put, List.setIfInBounds_toArray, List.set_cons_zero, List.set_cons_succ]
          refine qc_take (.pointer (some ⟨w.heap.size + 1, 0, none⟩)) (by rfl) (fun W (hW : Below _ _ W) => ?_) ?_
          · skip
            go_simp
          try simp only [Act.put, List.setIfInBounds_toArray, List.set_cons_zero, List.set_cons_succ]
          refine qc_take (.int .u64 y1) (by rfl) (fun W (hW : Below _ _ W) => ?_) ?_
          · skip
            obtain ⟨y0, y1⟩ := Sn.c2 HR1.out hW
            go_simp
          try simp only [Act.put, List.setIfInBounds_toArray, List.set_cons_zero, List.set_cons_succ]
          refine qc_take (.int .u64 (Wd.msk a / 2)) (by rfl) (fun W (hW : Below _ _ W) => ?_) ?_
          · skip
            go_simp
          try simp only [Act.put, List.setIfInBounds_toArray, List.set_cons_zero, List.set_cons_succ]
          refine qc_take (.bool false) (by rfl) (fun W (hW : Below _ _ W) => ?_) ?_
          · skip
            go_simp
          try simp only [Act.put, List.setIfInBounds_toArray, List.set_cons_zero, List.set_cons_succ]
          refine qc_take (.bool true) (by rfl) (fun W (hW : Below _ _ W) => ?_) ?_
          · skip
            go_simp
          try simp only [Act.put, List.setIfInBounds_toArray, List.set_cons_zero, List.set_cons_succ]
          refine qc_take (.bool false) (by rfl) (fun W (hW : Below _ _ W) => ?_) ?_
          · skip
            go_simp
          try simp only [Act.put, List.setIfInBounds_toArray, List.set_cons_zero, List.set_cons_succ]
          refine wpQuiet_nil ?_
          intro v2 hb
          have hr0 := Sn.bk_below HR0.out hb (Sn.bk_lt HR0.out)
          have hr1 := Sn.bk_below HR1.out hb (Sn.bk_lt HR1.out)
          have hB := Sn.below_next HB.out hb HB.out.size
          clear HB HR0 HR1 hb
          have HB := Lib.hid hB
          have HR0 := Lib.hid hr0
          have HR1 := Lib.hid hr1
          clear hB hr0 hr1
          clear v
          rename World => v
          go_wp2_with fail
          go_ret
          exact ⟨rfl, HB.out⟩
        · by_cases gy2 : y1 > Wd.msk a / 2
          · rw [if_pos (by omega)]
            generalize Sn.ord (x1, x2) (y1, y2) = o at *
            have kx1 : ¬ x2 ≤ Wd.msk a / 2 := by omega
            have kx2 : x1 > Wd.msk a / 2 := by omega
            have ky1 : ¬ y2 ≤ Wd.msk a / 2 := by omega
            have ky2 : y1 > Wd.msk a / 2 := by omega
            show Calls Try.prog 33 #[.int .i64 21, .int .u64 (Wd.msk a), .agg #[.int .u64 x1, .int .u64 x2], .agg #[.int .u64 y1, .int .u64 y2]] w _
            go_enter Try.func33, Try.ntmps33
            go_upto_region 1 with (fail)
            have hB : Below w.heap.size w ((w.alloc (.cells #[.int .u64 x1, .int .u64 x2] 24)).alloc (.cells #[.int .u64 y1, .int .u64 y2] 24)) := (((Below.refl _ _).alloc (Nat.le_refl _) _).alloc (by simp) _)
            have hr0 : Sn.Bk ((w.alloc (.cells #[.int .u64 x1, .int .u64 x2] 24)).alloc (.cells #[.int .u64 y1, .int .u64 y2] 24)) (w.heap.size) 24 #[.int .u64 x1, .int .u64 x2] := Sn.bk_old (Sn.bk_new _ _ _) _
            have hr1 : Sn.Bk ((w.alloc (.cells #[.int .u64 x1, .int .u64 x2] 24)).alloc (.cells #[.int .u64 y1, .int .u64 y2] 24)) (w.heap.size + 1) 24 #[.int .u64 y1, .int .u64 y2] := Sn.bk_at (by simp)
            generalize ((w.alloc (.cells #[.int .u64 x1, .int .u64 x2] 24)).alloc (.cells #[.int .u64 y1, .int .u64 y2] 24)) = v at *
            have HB := Lib.hid hB
            have HR0 := Lib.hid hr0
            have HR1 := Lib.hid hr1
            clear hB hr0 hr1
            have c0_0 := Sn.bk_c HR0.out 0
            have c0_1 := Sn.bk_c HR0.out 1
            have c1_0 := Sn.bk_c HR1.out 0
            have c1_1 := Sn.bk_c HR1.out 1
            simp only [List.getElem?_toArray, List.getElem?_cons_zero, List.getElem?_cons_succ] at c0_0 c0_1 c1_0 c1_1
            go_wp2_with fail
            clear c0_0 c0_1 c1_0 c1_1
            refine qc_all (fun W => Below v.heap.size v W) (by kernel_rfl) (by kernel_rfl) (Below.refl _ _).drew ?_
            refine qc_take (.pointer (some ⟨w.heap.size, 1, none⟩)) (by rfl) (fun W (hW : Below _ _ W) => ?_) ?_
            · skip
              go_simp
            try simp only [Act.put, List.setIfInBounds_toArray, List.set_cons_zero, List.set_cons_succ]
            refine qc_take (.int .u64 x2) (by rfl) (fun W (hW : Below _ _ W) => ?_) ?_
            · skip
              obtain ⟨y0, y1⟩ := Sn.c2 HR0.out hW
              go_simp
            try simp only [Act.put, List.setIfInBounds_toArray, List.set_cons_zero, List.set_cons_succ]
            refine qc_take (.int .u64 (Wd.msk a / 2)) (by rfl) (fun W (hW : Below _ _ W) => ?_) ?_
            · skip
              go_simp
            try simp only [Act.put, List.setIfInBounds_toArray, List.set_cons_zero, List.set_cons_succ]
            refine qc_take (.bool false) (by rfl) (fun W (hW : Below _ _ W) => ?_) ?_
            · skip
              go_simp
            try simp only [Act.put, List.setIfInBounds_toArray, List.set_cons_zero, List.set_cons_succ]
            refine qc_take (.pointer (some ⟨w.heap.size + 1, 1, none⟩)) (by rfl) (fun W (hW : Below _ _ W) => ?_) ?_
            · skip
              go_simp
            try simp only [Act.put, List.setIfInBounds_toArray, List.set_cons_zero, List.set_cons_succ]
            refine qc_take (.int .u64 y2) (by rfl) (fun W (hW : Below _ _ W) => ?_) ?_
            · skip
              obtain ⟨y0, y1⟩ := Sn.c2 HR1.out hW
              go_simp
            try simp only [Act.put, List.setIfInBounds_toArray, List.set_cons_zero, List.set_cons_succ]
            refine qc_take (.int .u64 (Wd.msk a / 2)) (by rfl) (fun W (hW : Below _ _ W) => ?_) ?_
            · skip
              go_simp
            try simp only [Act.put, List.setIfInBounds_toArray, List.set_cons_zero, List.set_cons_succ]
            refine qc_take (.bool false) (by rfl) (fun W (hW : Below _ _ W) => ?_) ?_
            · skip
              go_simp
            try simp only [Act.put, List.setIfInBounds_toArray, List.set_cons_zero, List.set_cons_succ]
            refine qc_take (.bool false) (by rfl) (fun W (hW : Below _ _ W) => ?_) ?_
            · skip
              go_simp
            try simp only [Act.put, List.setIfInBounds_toArray, List.set_cons_zero, List.set_cons_succ]
            refine qc_take (.bool false) (by rfl) (fun W (hW : Below _ _ W) => ?_) ?_
            · skip
              go_simp
            try simp only [Act.put, List.setIfInBounds_toArray, List.set_cons_zero, List.set_cons_succ]
            refine wpQuiet_nil ?_
            intro v2 hb
            have hr0 := Sn.bk_below HR0.out hb (Sn.bk_lt HR0.out)
            have hr1 := Sn.bk_below HR1.out hb (Sn.bk_lt HR1.out)
            have hB := Sn.below_next HB.out hb HB.out.size
            clear HB HR0 HR1 hb
            have HB := Lib.hid hB
            have HR0 := Lib.hid hr0
            have HR1 := Lib.hid hr1
            clear hB hr0 hr1
            clear v
            rename World => v
            go_wp2_with fail
            refine qc_all (fun W => Below v.heap.size v W) (by kernel_rfl) (by kernel_rfl) (Below.refl _ _).drew ?_
            refine qc_take (.pointer (some ⟨w.heap.size, 0, none⟩)) (by rfl) (fun W (hW : Below _ _ W) => ?_) ?_
            · skip
              go_simp
            try simp only [Act.put, List.setIfInBounds_toArray, List.set_cons_zero, List.set_cons_succ]
            refine qc_take (.int .u64 x1) (by rfl) (fun W (hW : Below _ _ W) => ?_) ?_
            · skip
              obtain ⟨y0, y1⟩ := Sn.c2 HR0.out hW
              go_simp
            try simp only [Act.put, List.setIfInBounds_toArray, List.set_cons_zero, List.set_cons_succ]
            refine qc_take (.int .u64 (Wd.msk a / 2)) (by rfl) (fun W (hW : Below _ _ W) => ?_) ?_
            · skip
              go_simp
            try simp only [Act.put, List.setIfInBounds_toArray, List.set_cons_zero, List.set_cons_succ]
            refine qc_take (.bool true) (by rfl) (fun W (hW : Below _ _ W) => ?_) ?_
            · skip
              go_simp
            try simp only [Act.put, List.setIfInBounds_toArray, List.set_cons_zero, List.set_cons_succ]
            refine qc_take (.pointer (some ⟨w.heap.size + 1, 0, none⟩)) (by rfl) (fun W (hW : Below _ _ W) => ?_) ?_
            · skip
              go_simp
            try simp only [Act.put, List.setIfInBounds_toArray, List.set_cons_zero, List.set_cons_succ]
            refine qc_take (.int .u64 y1) (by rfl) (fun W (hW : Below _ _ W) => ?_) ?_
            · skip
              obtain ⟨y0, y1⟩ := Sn.c2 HR1.out hW
              go_simp
            try simp only [Act.put, List.setIfInBounds_toArray, List.set_cons_zero, List.set_cons_succ]
            refine qc_take (.int .u64 (Wd.msk a / 2)) (by rfl) (fun W (hW : Below _ _ W) => ?_) ?_
            · skip
              go_simp
            try simp only [Act.put, List.setIfInBounds_toArray, List.set_cons_zero, List.set_cons_succ]
            refine qc_take (.bool true) (by rfl) (fun W (hW : Below _ _ W) => ?_) ?_
            · skip
              go_simp
            try simp only [Act.put, List.setIfInBounds_toArray, List.set_cons_zero, List.set_cons_succ]
            refine qc_take (.bool true) (by rfl) (fun W (hW : Below _ _ W) => ?_) ?_
            · skip
              go_simp
            try simp only [Act.put, List.setIfInBounds_toArray, List.set_cons_zero, List.set_cons_succ]
            refine qc_take (.bool true) (by rfl) (fun W (hW : Below _ _ W) => ?_) ?_
            · skip
              go_simp
            try simp only [Act.put, List.setIfInBounds_toArray, List.set_cons_zero, List.set_cons_succ]
            refine wpQuiet_nil ?_
            intro v2 hb
            have hr0 := Sn.bk_below HR0.out hb (Sn.bk_lt HR0.out)
            have hr1 := Sn.bk_below HR1.out hb (Sn.bk_lt HR1.out)
            have hB := Sn.below_next HB.out hb HB.out.size
            clear HB HR0 HR1 hb
            have HB := Lib.hid hB
            have HR0 := Lib.hid hr0
            have HR1 := Lib.hid hr1
            clear hB hr0 hr1
            clear v
            rename World => v
            go_wp2_with (first | (with_reducible refine Sn.load_sp (.tmp 6) (w.heap.size) #[.int .u64 x1, .int .u64 x2] HR0.out rfl rfl rfl rfl ?_) | (with_reducible refine Sn.load_sp (.tmp 7) (w.heap.size + 1) #[.int .u64 y1, .int .u64 y2] HR1.out rfl rfl rfl rfl ?_))
            refine (HO.out v).mono ?_
            rintro e v2 ⟨rfl, hb⟩
            have hr0 := Sn.bk_below HR0.out hb (Sn.bk_lt HR0.out)
            have hr1 := Sn.bk_below HR1.out hb (Sn.bk_lt HR1.out)
            have hB := Sn.below_next HB.out hb HB.out.size
            clear HB HR0 HR1 hb
            have HB := Lib.hid hB
            have HR0 := Lib.hid hr0
            have HR1 := Lib.hid hr1
            clear hB hr0 hr1
            clear v
            rename World => v
            go_wp2_with fail
            go_ret
            exact ⟨rfl, HB.out⟩
          · rw [if_neg (by omega), if_neg (by omega), if_neg (by omega)]
            have kx1 : ¬ x2 ≤ Wd.msk a / 2 := by omega
            have kx2 : x1 > Wd.msk a / 2 := by omega
            have ky1 : ¬ y2 ≤ Wd.msk a / 2 := by omega
            have ky2 : ¬ y1 > Wd.msk a / 2 := by omega
            show Calls Try.prog 33 #[.int .i64 21, .int .u64 (Wd.msk a), .agg #[.int .u64 x1, .int .u64 x2], .agg #[.int .u64 y1, .int .u64 y2]] w _
            go_enter Try.func33, Try.ntmps33
            go_upto_region 1 with (fail)
            have hB : Below w.heap.size w ((w.alloc (.cells #[.int .u64 x1, .int .u64 x2] 24)).alloc (.cells #[.int .u64 y1, .int .u64 y2] 24)) := (((Below.refl _ _).alloc (Nat.le_refl _) _).alloc (by simp) _)
            have hr0 : Sn.Bk ((w.alloc (.cells #[.int .u64 x1, .int .u64 x2] 24)).alloc (.cells #[.int .u64 y1, .int .u64 y2] 24)) (w.heap.size) 24 #[.int .u64 x1, .int .u64 x2] := Sn.bk_old (Sn.bk_new _ _ _) _
            have hr1 : Sn.Bk ((w.alloc (.cells #[.int .u64 x1, .int .u64 x2] 24)).alloc (.cells #[.int .u64 y1, .int .u64 y2] 24)) (w.heap.size + 1) 24 #[.int .u64 y1, .int .u64 y2] := Sn.bk_at (by simp)
            generalize ((w.alloc (.cells #[.int .u64 x1, .int .u64 x2] 24)).alloc (.cells #[.int .u64 y1, .int .u64 y2] 24)) = v at *
            have HB := Lib.hid hB
            have HR0 := Lib.hid hr0
            have HR1 := Lib.hid hr1
            clear hB hr0 hr1
            have c0_0 := Sn.bk_c HR0.out 0
            have c0_1 := Sn.bk_c HR0.out 1
            have c1_0 := Sn.bk_c HR1.out 0
            have c1_1 := Sn.bk_c HR1.out 1
            simp only [List.getElem?_toArray, List.getElem?_cons_zero, List.getElem?_cons_succ] at c0_0 c0_1 c1_0 c1_1
            go_wp2_with fail
            clear c0_0 c0_1 c1_0 c1_1
            refine qc_all (fun W => Below v.heap.size v W) (by kernel_rfl) (by kernel_rfl) (Below.refl _ _).drew ?_
            refine qc_take (.pointer (some ⟨w.heap.size, 1, none⟩)) (by rfl) (fun W (hW : Below _ _ W) => ?_) ?_
            · skip
              go_simp
            try simp only [Act.put, List.setIfInBounds_toArray, List.set_cons_zero, List.set_cons_succ]
            refine qc_take (.int .u64 x2) (by rfl) (fun W (hW : Below _ _ W) => ?_) ?_
            · skip
              obtain ⟨y0, y1⟩ := Sn.c2 HR0.out hW
              go_simp
            try simp only [Act.put, List.setIfInBounds_toArray, List.set_cons_zero, List.set_cons_succ]
            refine qc_take (.int .u64 (Wd.msk a / 2)) (by rfl) (fun W (hW : Below _ _ W) => ?_) ?_
            · skip
              go_simp
            try simp only [Act.put, List.setIfInBounds_toArray, List.set_cons_zero, List.set_cons_succ]
            refine qc_take (.bool false) (by rfl) (fun W (hW : Below _ _ W) => ?_) ?_
            · skip
              go_simp
            try simp only [Act.put, List.setIfInBounds_toArray, List.set_cons_zero, List.set_cons_succ]
            refine qc_take (.pointer (some ⟨w.heap.size + 1, 1, none⟩)) (by rfl) (fun W (hW : Below _ _ W) => ?_) ?_
            · skip
              go_simp
            try simp only [Act.put, List.setIfInBounds_toArray, List.set_cons_zero, List.set_cons_succ]
            refine qc_take (.int .u64 y2) (by rfl) (fun W (hW : Below _ _ W) => ?_) ?_
            · skip
              obtain ⟨y0, y1⟩ := Sn.c2 HR1.out hW
              go_simp
            try simp only [Act.put, List.setIfInBounds_toArray, List.set_cons_zero, List.set_cons_succ]
            refine qc_take (.int .u64 (Wd.msk a / 2)) (by rfl) (fun W (hW : Below _ _ W) => ?_) ?_
            · skip
              go_simp
            try simp only [Act.put, List.setIfInBounds_toArray, List.set_cons_zero, List.set_cons_succ]
            refine qc_take (.bool false) (by rfl) (fun W (hW : Below _ _ W) => ?_) ?_
            · skip
              go_simp
            try simp only [Act.put, List.setIfInBounds_toArray, List.set_cons_zero, List.set_cons_succ]
            refine qc_take (.bool false) (by rfl) (fun W (hW : Below _ _ W) => ?_) ?_
            · skip
              go_simp
            try simp only [Act.put, List.setIfInBounds_toArray, List.set_cons_zero, List.set_cons_succ]
            refine qc_take (.bool false) (by rfl) (fun W (hW : Below _ _ W) => ?_) ?_
            · skip
              go_simp
            try simp only [Act.put, List.setIfInBounds_toArray, List.set_cons_zero, List.set_cons_succ]
            refine wpQuiet_nil ?_
            intro v2 hb
            have hr0 := Sn.bk_below HR0.out hb (Sn.bk_lt HR0.out)
            have hr1 := Sn.bk_below HR1.out hb (Sn.bk_lt HR1.out)
            have hB := Sn.below_next HB.out hb HB.out.size
            clear HB HR0 HR1 hb
            have HB := Lib.hid hB
            have HR0 := Lib.hid hr0
            have HR1 := Lib.hid hr1
            clear hB hr0 hr1
            clear v
            rename World => v
            go_wp2_with fail
            refine qc_all (fun W => Below v.heap.size v W) (by kernel_rfl) (by kernel_rfl) (Below.refl _ _).drew ?_
            refine qc_take (.pointer (some ⟨w.heap.size, 0, none⟩)) (by rfl) (fun W (hW : Below _ _ W) => ?_) ?_
            · skip
              go_simp
            try simp only [Act.put, List.setIfInBounds_toArray, List.set_cons_zero, List.set_cons_succ]
            refine qc_take (.int .u64 x1) (by rfl) (fun W (hW : Below _ _ W) => ?_) ?_
            · skip
              obtain ⟨y0, y1⟩ := Sn.c2 HR0.out hW
              go_simp
            try simp only [Act.put, List.setIfInBounds_toArray, List.set_cons_zero, List.set_cons_succ]
            refine qc_take (.int .u64 (Wd.msk a / 2)) (by rfl) (fun W (hW : Below _ _ W) => ?_) ?_
            · skip
              go_simp
            try simp only [Act.put, List.setIfInBounds_toArray, List.set_cons_zero, List.set_cons_succ]
            refine qc_take (.bool true) (by rfl) (fun W (hW : Below _ _ W) => ?_) ?_
            · skip
              go_simp
            try simp only [Act.put, List.setIfInBounds_toArray, List.set_cons_zero, List.set_cons_succ]
            refine qc_take (.pointer (some ⟨w.heap.size + 1, 0, none⟩)) (by rfl) (fun W (hW : Below _ _ W) => ?_) ?_
            · skip
              go_simp
            try simp only [Act.put, List.setIfInBounds_toArray, List.set_cons_zero, List.set_cons_succ]
            refine qc_take (.int .u64 y1) (by rfl) (fun W (hW : Below _ _ W) => ?_) ?_
            · skip
              obtain ⟨y0, y1⟩ := Sn.c2 HR1.out hW
              go_simp
            try simp only [Act.put, List.setIfInBounds_toArray, List.set_cons_zero, List.set_cons_succ]
            refine qc_take (.int .u64 (Wd.msk a / 2)) (by rfl) (fun W (hW : Below _ _ W) => ?_) ?_
            · skip
              go_simp
            try simp only [Act.put, List.setIfInBounds_toArray, List.set_cons_zero, List.set_cons_succ]
            refine qc_take (.bool false) (by rfl) (fun W (hW : Below _ _ W) => ?_) ?_
            · skip
              go_simp
            try simp only [Act.put, List.setIfInBounds_toArray, List.set_cons_zero, List.set_cons_succ]
            refine qc_take (.bool true) (by rfl) (fun W (hW : Below _ _ W) => ?_) ?_
            · skip
              go_simp
            try simp only [Act.put, List.setIfInBounds_toArray, List.set_cons_zero, List.set_cons_succ]
            refine qc_take (.bool false) (by rfl) (fun W (hW : Below _ _ W) => ?_) ?_
            · skip
              go_simp
            try simp only [Act.put, List.setIfInBounds_toArray, List.set_cons_zero, List.set_cons_succ]
            refine wpQuiet_nil ?_
            intro v2 hb
            have hr0 := Sn.bk_below HR0.out hb (Sn.bk_lt HR0.out)
            have hr1 := Sn.bk_below HR1.out hb (Sn.bk_lt HR1.out)
            have hB := Sn.below_next HB.out hb HB.out.size
            clear HB HR0 HR1 hb
            have HB := Lib.hid hB
            have HR0 := Lib.hid hr0
            have HR1 := Lib.hid hr1
            clear hB hr0 hr1
            clear v
            rename World => v
            go_wp2_with fail
            go_ret
            exact ⟨rfl, HB.out⟩
      · by_cases gy1 : y2 ≤ Wd.msk a / 2
        · rw [if_neg (by omega), if_neg (by omega), if_neg (by omega)]
          have kx1 : ¬ x2 ≤ Wd.msk a / 2 := by omega
          have kx2 : ¬ x1 > Wd.msk a / 2 := by omega
          have ky1 : y2 ≤ Wd.msk a / 2 := by omega
          have ky2 : ¬ y1 > Wd.msk a / 2 := by omega
          show Calls Try.prog 33 #[.int .i64 21, .int .u64 (Wd.msk a), .agg #[.int .u64 x1, .int .u64 x2], .agg #[.int .u64 y1, .int .u64 y2]] w _
          go_enter Try.func33, Try.ntmps33
          go_upto_region 1 with (fail)
          have hB : Below w.heap.size w ((w.alloc (.cells #[.int .u64 x1, .int .u64 x2] 24)).alloc (.cells #[.int .u64 y1, .int .u64 y2] 24)) := (((Below.refl _ _).alloc (Nat.le_refl _) _).alloc (by simp) _)
          have hr0 : Sn.Bk ((w.alloc (.cells #[.int .u64 x1, .int .u64 x2] 24)).alloc (.cells #[.int .u64 y1, .int .u64 y2] 24)) (w.heap.size) 24 #[.int .u64 x1, .int .u64 x2] := Sn.bk_old (Sn.bk_new _ _ _) _
          have hr1 : Sn.Bk ((w.alloc (.cells #[.int .u64 x1, .int .u64 x2] 24)).alloc (.cells #[.int .u64 y1, .int .u64 y2] 24)) (w.heap.size + 1) 24 #[.int .u64 y1, .int .u64 y2] := Sn.bk_at (by simp)
          generalize ((w.alloc (.cells #[.int .u64 x1, .int .u64 x2] 24)).alloc (.cells #[.int .u64 y1, .int .u64 y2] 24)) = v at *
          have HB := Lib.hid hB
          have HR0 := Lib.hid hr0
          have HR1 := Lib.hid hr1
          clear hB hr0 hr1
          have c0_0 := Sn.bk_c HR0.out 0
          have c0_1 := Sn.bk_c HR0.out 1
          have c1_0 := Sn.bk_c HR1.out 0
          have c1_1 := Sn.bk_c HR1.out 1
          simp only [List.getElem?_toArray, List.getElem?_cons_zero, List.getElem?_cons_succ] at c0_0 c0_1 c1_0 c1_1
          go_wp2_with fail
          clear c0_0 c0_1 c1_0 c1_1
          refine qc_all (fun W => Below v.heap.size v W) (by kernel_rfl) (by kernel_rfl) (Below.refl _ _).drew ?_
          refine qc_take (.pointer (some ⟨w.heap.size, 1, none⟩)) (by rfl) (fun W (hW : Below _ _ W) => ?_) ?_
          · skip
            go_simp
          try simp only [Act.put, List.setIfInBounds_toArray, List.set_cons_zero, List.set_cons_succ]
          refine qc_take (.int .u64 x2) (by rfl) (fun W (hW : Below _ _ W) => ?_) ?_
          · skip
            obtain ⟨y0, y1⟩ := Sn.c2 HR0.out hW
            go_simp
          try simp only [Act.put, List.setIfInBounds_toArray, List.set_cons_zero, List.set_cons_succ]
          refine qc_take (.int .u64 (Wd.msk a / 2)) (by rfl) (fun W (hW : Below _ _ W) => ?_) ?_
          · skip
            go_simp
          try simp only [Act.put, List.setIfInBounds_toArray, List.set_cons_zero, List.set_cons_succ]
          refine qc_take (.bool false) (by rfl) (fun W (hW : Below _ _ W) => ?_) ?_
          · skip
            go_simp
          try simp only [Act.put, List.setIfInBounds_toArray, List.set_cons_zero, List.set_cons_succ]
          refine qc_take (.pointer (some ⟨w.heap.size + 1, 1, none⟩)) (by rfl) (fun W (hW : Below _ _ W) => ?_) ?_
          · skip
            go_simp
          try simp only [Act.put, List.setIfInBounds_toArray, List.set_cons_zero, List.set_cons_succ]
          refine qc_take (.int .u64 y2) (by rfl) (fun W (hW : Below _ _ W) => ?_) ?_
          · skip
            obtain ⟨y0, y1⟩ := Sn.c2 HR1.out hW
            go_simp
          try simp only [Act.put, List.setIfInBounds_toArray, List.set_cons_zero, List.set_cons_succ]
          refine qc_take (.int .u64 (Wd.msk a / 2)) (by rfl) (fun W (hW : Below _ _ W) => ?_) ?_
          · skip
            go_simp
          try simp only [Act.put, List.setIfInBounds_toArray, List.set_cons_zero, List.set_cons_succ]
          refine qc_take (.bool true) (by rfl) (fun W (hW : Below _ _ W) => ?_) ?_
          · skip
            go_simp
          try simp only [Act.put, List.setIfInBounds_toArray, List.set_cons_zero, List.set_cons_succ]
          refine qc_take (.bool false) (by rfl) (fun W (hW : Below _ _ W) => ?_) ?_
          · skip
            go_simp
          try simp only [Act.put, List.setIfInBounds_toArray, List.set_cons_zero, List.set_cons_succ]
          refine qc_take (.bool true) (by rfl) (fun W (hW : Below _ _ W) => ?_) ?_
          · skip
            go_simp
          try simp only [Act.put, List.setIfInBounds_toArray, List.set_cons_zero, List.set_cons_succ]
          refine wpQuiet_nil ?_
          intro v2 hb
          have hr0 := Sn.bk_below HR0.out hb (Sn.bk_lt HR0.out)
          have hr1 := Sn.bk_below HR1.out hb (Sn.bk_lt HR1.out)
          have hB := Sn.below_next HB.out hb HB.out.size
          clear HB HR0 HR1 hb
          have HB := Lib.hid hB
          have HR0 := Lib.hid hr0
          have HR1 := Lib.hid hr1
          clear hB hr0 hr1
          clear v
          rename World => v
          go_wp2_with fail
          refine qc_all (fun W => Below v.heap.size v W) (by kernel_rfl) (by kernel_rfl) (Below.refl _ _).drew ?_
          refine qc_take (.pointer (some ⟨w.heap.size, 0, none⟩)) (by rfl) (fun W (hW : Below _ _ W) => ?_) ?_
          · skip
            go_simp
          try simp only [Act.put, List.setIfInBounds_toArray, List.set_cons_zero, List.set_cons_succ]
          refine qc_take (.int .u64 x1) (by rfl) (fun W (hW : Below _ _ W) => ?_) ?_
          · skip
            obtain ⟨y0, y1⟩ := Sn.c2 HR0.out hW
            go_simp
          try simp only [Act.put, List.setIfInBounds_toArray, List.set_cons_zero, List.set_cons_succ]
          refine qc_take (.int .u64 (Wd.msk a / 2)) (by rfl) (fun W (hW : Below _ _ W) => ?_) ?_
          · skip
            go_simp
          try simp only [Act.put, List.setIfInBounds_toArray, List.set_cons_zero, List.set_cons_succ]
          refine qc_take (.bool false) (by rfl) (fun W (hW : Below _ _ W) => ?_) ?_
          · skip
            go_simp
          try simp only [Act.put, List.setIfInBounds_toArray, List.set_cons_zero, List.set_cons_succ]
          refine qc_take (.pointer (some ⟨w.heap.size + 1, 0, none⟩)) (by rfl) (fun W (hW : Below _ _ W) => ?_) ?_
          · skip
            go_simp
          try simp only [Act.put, List.setIfInBounds_toArray, List.set_cons_zero, List.set_cons_succ]
          refine qc_take (.int .u64 y1) (by rfl) (fun W (hW : Below _ _ W) => ?_) ?_
          · skip
            obtain ⟨y0, y1⟩ := Sn.c2 HR1.out hW
            go_simp
          try simp only [Act.put, List.setIfInBounds_toArray, List.set_cons_zero, List.set_cons_succ]
          refine qc_take (.int .u64 (Wd.msk a / 2)) (by rfl) (fun W (hW : Below _ _ W) => ?_) ?_
          · skip
            go_simp
          try simp only [Act.put, List.setIfInBounds_toArray, List.set_cons_zero, List.set_cons_succ]
          refine qc_take (.bool false) (by rfl) (fun W (hW : Below _ _ W) => ?_) ?_
          · skip
            go_simp
          try simp only [Act.put, List.setIfInBounds_toArray, List.set_cons_zero, List.set_cons_succ]
          refine qc_take (.bool false) (by rfl) (fun W (hW : Below _ _ W) => ?_) ?_
          · skip
            go_simp
          try simp only [Act.put, List.setIfInBounds_toArray, List.set_cons_zero, List.set_cons_succ]
          refine qc_take (.bool false) (by rfl) (fun W (hW : Below _ _ W) => ?_) ?_
          · skip
            go_simp
          try simp only [Act.put, List.setIfInBounds_toArray, List.set_cons_zero, List.set_cons_succ]
          refine wpQuiet_nil ?_
          intro v2 hb
          have hr0 := Sn.bk_below HR0.out hb (Sn.bk_lt HR0.out)
          have hr1 := Sn.bk_below HR1.out hb (Sn.bk_lt HR1.out)
          have hB := Sn.below_next HB.out hb HB.out.size
          clear HB HR0 HR1 hb
          have HB := Lib.hid hB
          have HR0 := Lib.hid hr0
          have HR1 := Lib.hid hr1
          clear hB hr0 hr1
          clear v
          rename World => v
          go_wp2_with fail
          go_ret
          exact ⟨rfl, HB.out⟩
        · by_cases gy2 : y1 > Wd.msk a / 2
          · rw [if_neg (by omega), if_neg (by omega), if_neg (by omega)]
            have kx1 : ¬ x2 ≤ Wd.msk a / 2 := by omega
            have kx2 : ¬ x1 > Wd.msk a / 2 := by omega
            have ky1 : ¬ y2 ≤ Wd.msk a / 2 := by omega
            have ky2 : y1 > Wd.msk a / 2 := by omega
            show Calls Try.prog 33 #[.int .i64 21, .int .u64 (Wd.msk a), .agg #[.int .u64 x1, .int .u64 x2], .agg #[.int .u64 y1, .int .u64 y2]] w _
            go_enter Try.func33, Try.ntmps33
            go_upto_region 1 with (fail)
            have hB : Below w.heap.size w ((w.alloc (.cells #[.int .u64 x1, .int .u64 x2] 24)).alloc (.cells #[.int .u64 y1, .int .u64 y2] 24)) := (((Below.refl _ _).alloc (Nat.le_refl _) _).alloc (by simp) _)
            have hr0 : Sn.Bk ((w.alloc (.cells #[.int .u64 x1, .int .u64 x2] 24)).alloc (.cells #[.int .u64 y1, .int .u64 y2] 24)) (w.heap.size) 24 #[.int .u64 x1, .int .u64 x2] := Sn.bk_old (Sn.bk_new _ _ _) _
            have hr1 : Sn.Bk ((w.alloc (.cells #[.int .u64 x1, .int .u64 x2] 24)).alloc (.cells #[.int .u64 y1, .int .u64 y2] 24)) (w.heap.size + 1) 24 #[.int .u64 y1, .int .u64 y2] := Sn.bk_at (by simp)
            generalize ((w.alloc (.cells #[.int .u64 x1, .int .u64 x2] 24)).alloc (.cells #[.int .u64 y1, .int .u64 y2] 24)) = v at *
            have HB := Lib.hid hB
            have HR0 := Lib.hid hr0
            have HR1 := Lib.hid hr1
            clear hB hr0 hr1
            have c0_0 := Sn.bk_c HR0.out 0
            have c0_1 := Sn.bk_c HR0.out 1
            have c1_0 := Sn.bk_c HR1.out 0
            have c1_1 := Sn.bk_c HR1.out 1
            simp only [List.getElem?_toArray, List.getElem?_cons_zero, List.getElem?_cons_succ] at c0_0 c0_1 c1_0 c1_1
            go_wp2_with fail
            clear c0_0 c0_1 c1_0 c1_1
            refine qc_all (fun W => Below v.heap.size v W) (by kernel_rfl) (by kernel_rfl) (Below.refl _ _).drew ?_
            refine qc_take (.pointer (some ⟨w.heap.size, 1, none⟩)) (by rfl) (fun W (hW : Below _ _ W) => ?_) ?_
            · skip
              go_simp
            try simp only [Act.put, List.setIfInBounds_toArray, List.set_cons_zero, List.set_cons_succ]
            refine qc_take (.int .u64 x2) (by rfl) (fun W (hW : Below _ _ W) => ?_) ?_
            · skip
              obtain ⟨y0, y1⟩ := Sn.c2 HR0.out hW
              go_simp
            try simp only [Act.put, List.setIfInBounds_toArray, List.set_cons_zero, List.set_cons_succ]
            refine qc_take (.int .u64 (Wd.msk a / 2)) (by rfl) (fun W (hW : Below _ _ W) => ?_) ?_
            · skip
              go_simp
            try simp only [Act.put, List.setIfInBounds_toArray, List.set_cons_zero, List.set_cons_succ]
            refine qc_take (.bool false) (by rfl) (fun W (hW : Below _ _ W) => ?_) ?_
            · skip
              go_simp
            try simp only [Act.put, List.setIfInBounds_toArray, List.set_cons_zero, List.set_cons_succ]
            refine qc_take (.pointer (some ⟨w.heap.size + 1, 1, none⟩)) (by rfl) (fun W (hW : Below _ _ W) => ?_) ?_
            · skip
              go_simp
            try simp only [Act.put, List.setIfInBounds_toArray, List.set_cons_zero, List.set_cons_succ]
            refine qc_take (.int .u64 y2) (by rfl) (fun W (hW : Below _ _ W) => ?_) ?_
            · skip
              obtain ⟨y0, y1⟩ := Sn.c2 HR1.out hW
              go_simp
            try simp only [Act.put, List.setIfInBounds_toArray, List.set_cons_zero, List.set_cons_succ]
            refine qc_take (.int .u64 (Wd.msk a / 2)) (by rfl) (fun W (hW : Below _ _ W) => ?_) ?_
            · skip
              go_simp
            try simp only [Act.put, List.setIfInBounds_toArray, List.set_cons_zero, List.set_cons_succ]
            refine qc_take (.bool false) (by rfl) (fun W (hW : Below _ _ W) => ?_) ?_
            · skip
              go_simp
            try simp only [Act.put, List.setIfInBounds_toArray, List.set_cons_zero, List.set_cons_succ]
            refine qc_take (.bool false) (by rfl) (fun W (hW : Below _ _ W) => ?_) ?_
            · skip
              go_simp
            try simp only [Act.put, List.setIfInBounds_toArray, List.set_cons_zero, List.set_cons_succ]
            refine qc_take (.bool false) (by rfl) (fun W (hW : Below _ _ W) => ?_) ?_
            · skip
              go_simp
            try simp only [Act.put, List.setIfInBounds_toArray, List.set_cons_zero, List.set_cons_succ]
            refine wpQuiet_nil ?_
            intro v2 hb
            have hr0 := Sn.bk_below HR0.out hb (Sn.bk_lt HR0.out)
            have hr1 := Sn.bk_below HR1.out hb (Sn.bk_lt HR1.out)
            have hB := Sn.below_next HB.out hb HB.out.size
            clear HB HR0 HR1 hb
            have HB := Lib.hid hB
            have HR0 := Lib.hid hr0
            have HR1 := Lib.hid hr1
            clear hB hr0 hr1
            clear v
            rename World => v
            go_wp2_with fail
            refine qc_all (fun W => Below v.heap.size v W) (by kernel_rfl) (by kernel_rfl) (Below.refl _ _).drew ?_
            refine qc_take (.pointer (some ⟨w.heap.size, 0, none⟩)) (by rfl) (fun W (hW : Below _ _ W) => ?_) ?_
            · skip
              go_simp
            try simp only [Act.put, List.setIfInBounds_toArray, List.set_cons_zero, List.set_cons_succ]
            refine qc_take (.int .u64 x1) (by rfl) (fun W (hW : Below _ _ W) => ?_) ?_
            · skip
              obtain ⟨y0, y1⟩ := Sn.c2 HR0.out hW
              go_simp
            try simp only [Act.put, List.setIfInBounds_toArray, List.set_cons_zero, List.set_cons_succ]
            refine qc_take (.int .u64 (Wd.msk a / 2)) (by rfl) (fun W (hW : Below _ _ W) => ?_) ?_
            · skip
              go_simp
            try simp only [Act.put, List.setIfInBounds_toArray, List.set_cons_zero, List.set_cons_succ]
            refine qc_take (.bool false) (by rfl) (fun W (hW : Below _ _ W) => ?_) ?_
            · skip
              go_simp
            try simp only [Act.put, List.setIfInBounds_toArray, List.set_cons_zero, List.set_cons_succ]
            refine qc_take (.pointer (some ⟨w.heap.size + 1, 0, none⟩)) (by rfl) (fun W (hW : Below _ _ W) => ?_) ?_
            · skip
              go_simp
            try simp only [Act.put, List.setIfInBounds_toArray, List.set_cons_zero, List.set_cons_succ]
            refine qc_take (.int .u64 y1) (by rfl) (fun W (hW : Below _ _ W) => ?_) ?_
            · skip
              obtain ⟨y0, y1⟩ := Sn.c2 HR1.out hW
              go_simp
            try simp only [Act.put, List.setIfInBounds_toArray, List.set_cons_zero, List.set_cons_succ]
            refine qc_take (.int .u64 (Wd.msk a / 2)) (by rfl) (fun W (hW : Below _ _ W) => ?_) ?_
            · skip
              go_simp
            try simp only [Act.put, List.setIfInBounds_toArray, List.set_cons_zero, List.set_cons_succ]
            refine qc_take (.bool true) (by rfl) (fun W (hW : Below _ _ W) => ?_) ?_
            · skip
              go_simp
            try simp only [Act.put, List.setIfInBounds_toArray, List.set_cons_zero, List.set_cons_succ]
            refine qc_take (.bool false) (by rfl) (fun W (hW : Below _ _ W) => ?_) ?_
            · skip
              go_simp
            try simp only [Act.put, List.setIfInBounds_toArray, List.set_cons_zero, List.set_cons_succ]
            refine qc_take (.bool true) (by rfl) (fun W (hW : Below _ _ W) => ?_) ?_
            · skip
              go_simp
            try simp only [Act.put, List.setIfInBounds_toArray, List.set_cons_zero, List.set_cons_succ]
            refine wpQuiet_nil ?_
            intro v2 hb
            have hr0 := Sn.bk_below HR0.out hb (Sn.bk_lt HR0.out)
            have hr1 := Sn.bk_below HR1.out hb (Sn.bk_lt HR1.out)
            have hB := Sn.below_next HB.out hb HB.out.size
            clear HB HR0 HR1 hb
            have HB := Lib.hid hB
            have HR0 := Lib.hid hr0
            have HR1 := Lib.hid hr1
            clear hB hr0 hr1
            clear v
            rename World => v
            go_wp2_with fail
            go_ret
            exact ⟨rfl, HB.out⟩
          · rw [if_neg (by omega), if_neg (by omega), if_neg (by omega)]
            have kx1 : ¬ x2 ≤ Wd.msk a / 2 := by omega
            have kx2 : ¬ x1 > Wd.msk a / 2 := by omega
            have ky1 : ¬ y2 ≤ Wd.msk a / 2 := by omega
            have ky2 : ¬ y1 > Wd.msk a / 2 := by omega
            show Calls Try.prog 33 #[.int .i64 21, .int .u64 (Wd.msk a), .agg #[.int .u64 x1, .int .u64 x2], .agg #[.int .u64 y1, .int .u64 y2]] w _
            go_enter Try.func33, Try.ntmps33
            go_upto_region 1 with (fail)
            have hB : Below w.heap.size w ((w.alloc (.cells #[.int .u64 x1, .int .u64 x2] 24)).alloc (.cells #[.int .u64 y1, .int .u64 y2] 24)) := (((Below.refl _ _).alloc (Nat.le_refl _) _).alloc (by simp) _)
            have hr0 : Sn.Bk ((w.alloc (.cells #[.int .u64 x1, .int .u64 x2] 24)).alloc (.cells #[.int .u64 y1, .int .u64 y2] 24)) (w.heap.size) 24 #[.int .u64 x1, .int .u64 x2] := Sn.bk_old (Sn.bk_new _ _ _) _
            have hr1 : Sn.Bk ((w.alloc (.cells #[.int .u64 x1, .int .u64 x2] 24)).alloc (.cells #[.int .u64 y1, .int .u64 y2] 24)) (w.heap.size + 1) 24 #[.int .u64 y1, .int .u64 y2] := Sn.bk_at (by simp)
            generalize ((w.alloc (.cells #[.int .u64 x1, .int .u64 x2] 24)).alloc (.cells #[.int .u64 y1, .int .u64 y2] 24)) = v at *
            have HB := Lib.hid hB
            have HR0 := Lib.hid hr0
            have HR1 := Lib.hid hr1
            clear hB hr0 hr1
            have c0_0 := Sn.bk_c HR0.out 0
            have c0_1 := Sn.bk_c HR0.out 1
            have c1_0 := Sn.bk_c HR1.out 0
            have c1_1 := Sn.bk_c HR1.out 1
            simp only [List.getElem?_toArray, List.getElem?_cons_zero, List.getElem?_cons_succ] at c0_0 c0_1 c1_0 c1_1
            go_wp2_with fail
            clear c0_0 c0_1 c1_0 c1_1
            refine qc_all (fun W => Below v.heap.size v W) (by kernel_rfl) (by kernel_rfl) (Below.refl _ _).drew ?_
            refine qc_take (.pointer (some ⟨w.heap.size, 1, none⟩)) (by rfl) (fun W (hW : Below _ _ W) => ?_) ?_
            · skip
              go_simp
            try simp only [Act.put, List.setIfInBounds_toArray, List.set_cons_zero, List.set_cons_succ]
            refine qc_take (.int .u64 x2) (by rfl) (fun W (hW : Below _ _ W) => ?_) ?_
            · skip
              obtain ⟨y0, y1⟩ := Sn.c2 HR0.out hW
              go_simp
            try simp only [Act.put, List.setIfInBounds_toArray, List.set_cons_zero, List.set_cons_succ]
            refine qc_take (.int .u64 (Wd.msk a / 2)) (by rfl) (fun W (hW : Below _ _ W) => ?_) ?_
            · skip
              go_simp
            try simp only [Act.put, List.setIfInBounds_toArray, List.set_cons_zero, List.set_cons_succ]
            refine qc_take (.bool false) (by rfl) (fun W (hW : Below _ _ W) => ?_) ?_
            · skip
              go_simp
            try simp only [Act.put, List.setIfInBounds_toArray, List.set_cons_zero, List.set_cons_succ]
            refine qc_take (.pointer (some ⟨w.heap.size + 1, 1, none⟩)) (by rfl) (fun W (hW : Below _ _ W) => ?_) ?_
            · skip
              go_simp
            try simp only [Act.put, List.setIfInBounds_toArray, List.set_cons_zero, List.set_cons_succ]
            refine qc_take (.int .u64 y2) (by rfl) (fun W (hW : Below _ _ W) => ?_) ?_
            · skip
              obtain ⟨y0, y1⟩ := Sn.c2 HR1.out hW
              go_simp
            try simp only [Act.put, List.setIfInBounds_toArray, List.set_cons_zero, List.set_cons_succ]
            refine qc_take (.int .u64 (Wd.msk a / 2)) (by rfl) (fun W (hW : Below _ _ W) => ?_) ?_
            · skip
              go_simp
            try simp only [Act.put, List.setIfInBounds_toArray, List.set_cons_zero, List.set_cons_succ]
            refine qc_take (.bool false) (by rfl) (fun W (hW : Below _ _ W) => ?_) ?_
            · skip
              go_simp
            try simp only [Act.put, List.setIfInBounds_toArray, List.set_cons_zero, List.set_cons_succ]
            refine qc_take (.bool false) (by rfl) (fun W (hW : Below _ _ W) => ?_) ?_
            · skip
              go_simp
            try simp only [Act.put, List.setIfInBounds_toArray, List.set_cons_zero, List.set_cons_succ]
            refine qc_take (.bool false) (by rfl) (fun W (hW : Below _ _ W) => ?_) ?_
            · skip
              go_simp
            try simp only [Act.put, List.setIfInBounds_toArray, List.set_cons_zero, List.set_cons_succ]
            refine wpQuiet_nil ?_
            intro v2 hb
            have hr0 := Sn.bk_below HR0.out hb (Sn.bk_lt HR0.out)
            have hr1 := Sn.bk_below HR1.out hb (Sn.bk_lt HR1.out)
            have hB := Sn.below_next HB.out hb HB.out.size
            clear HB HR0 HR1 hb
            have HB := Lib.hid hB
            have HR0 := Lib.hid hr0
            have HR1 := Lib.hid hr1
            clear hB hr0 hr1
            clear v
            rename World => v
            go_wp2_with fail
            refine qc_all (fun W => Below v.heap.size v W) (by kernel_rfl) (by kernel_rfl) (Below.refl _ _).drew ?_
            refine qc_take (.pointer (some ⟨w.heap.size, 0, none⟩)) (by rfl) (fun W (hW : Below _ _ W) => ?_) ?_
            · skip
              go_simp
            try simp only [Act.put, List.setIfInBounds_toArray, List.set_cons_zero, List.set_cons_succ]
            refine qc_take (.int .u64 x1) (by rfl) (fun W (hW : Below _ _ W) => ?_) ?_
            · skip
              obtain ⟨y0, y1⟩ := Sn.c2 HR0.out hW
              go_simp
            try simp only [Act.put, List.setIfInBounds_toArray, List.set_cons_zero, List.set_cons_succ]
            refine qc_take (.int .u64 (Wd.msk a / 2)) (by rfl) (fun W (hW : Below _ _ W) => ?_) ?_
            · skip
              go_simp
            try simp only [Act.put, List.setIfInBounds_toArray, List.set_cons_zero, List.set_cons_succ]
            refine qc_take (.bool false) (by rfl) (fun W (hW : Below _ _ W) => ?_) ?_
            · skip
              go_simp
            try simp only [Act.put, List.setIfInBounds_toArray, List.set_cons_zero, List.set_cons_succ]
            refine qc_take (.pointer (some ⟨w.heap.size + 1, 0, none⟩)) (by rfl) (fun W (hW : Below _ _ W) => ?_) ?_
            · skip
              go_simp
            try simp only [Act.put, List.setIfInBounds_toArray, List.set_cons_zero, List.set_cons_succ]
            refine qc_take (.int .u64 y1) (by rfl) (fun W (hW : Below _ _ W) => ?_) ?_
            · skip
              obtain ⟨y0, y1⟩ := Sn.c2 HR1.out hW
              go_simp
            try simp only [Act.put, List.setIfInBounds_toArray, List.set_cons_zero, List.set_cons_succ]
            refine qc_take (.int .u64 (Wd.msk a / 2)) (by rfl) (fun W (hW : Below _ _ W) => ?_) ?_
            · skip
              go_simp
            try simp only [Act.put, List.setIfInBounds_toArray, List.set_cons_zero, List.set_cons_succ]
            refine qc_take (.bool false) (by rfl) (fun W (hW : Below _ _ W) => ?_) ?_
            · skip
              go_simp
            try simp only [Act.put, List.setIfInBounds_toArray, List.set_cons_zero, List.set_cons_succ]
            refine qc_take (.bool false) (by rfl) (fun W (hW : Below _ _ W) => ?_) ?_
            · skip
              go_simp
            try simp only [Act.put, List.setIfInBounds_toArray, List.set_cons_zero, List.set_cons_succ]
            refine qc_take (.bool false) (by rfl) (fun W (hW : Below _ _ W) => ?_) ?_
            · skip
              go_simp
            try simp only [Act.put, List.setIfInBounds_toArray, List.set_cons_zero, List.set_cons_succ]
            refine wpQuiet_nil ?_
            intro v2 hb
            have hr0 := Sn.bk_below HR0.out hb (Sn.bk_lt HR0.out)
            have hr1 := Sn.bk_below HR1.out hb (Sn.bk_lt HR1.out)
            have hB := Sn.below_next HB.out hb HB.out.size
            clear HB HR0 HR1 hb
            have HB := Lib.hid hB
            have HR0 := Lib.hid hr0
            have HR1 := Lib.hid hr1
            clear hB hr0 hr1
            clear v
            rename World => v
            go_wp2_with fail
            go_ret
            exact ⟨rfl, HB.out⟩


end Go.Proofs.Ytbjckcjfambpoaa
namespace Go.Proofs.Ytbjckcjfambpoaa
set_option linter.unusedSimpArgs false
set_option linter.unusedVariables false
open Go.RowKit Go.Maps
set_option maxRecDepth 100000

theorem Sn.ret_t {a b c d : Int} (k : Bool) (h1 : a = c) (h2 : b = d) : Ending.returned (.tuple #[.agg #[.int .u64 a, .int .u64 b], .bool k]) = .returned (.tuple #[Sn.v (c, d), .bool k]) := by rw [h1, h2]
theorem rover_is {m p q : Int} (b : Bool) (m0 : 0 ≤ m) (m1 : m < 18446744073709551616) (p0 : 0 ≤ p) (p1 : p < 18446744073709551616) (h : (decide (m < p + q) || decide (m < p)) = b) (w : World) :
    Calls Try.prog 77 #[.int .u64 m, .int .u64 p, .int .u64 q] w fun e w' => e = .returned (.bool b) ∧ w = w' := h ▸ rover_any m p q m0 m1 p0 p1 w
theorem rfits_is {m p q : Int} (b : Bool) (m0 : 0 ≤ m) (m1 : m < 18446744073709551616) (p0 : 0 ≤ p) (p1 : p < 18446744073709551616) (h : decide (p * q ≤ m) = b) (w : World) :
    Calls Try.prog 78 #[.int .u64 m, .int .u64 p, .int .u64 q] w fun e w' => e = .returned (.bool b) ∧ w = w' := h ▸ rfits_any m p q m0 m1 p0 p1 w
/-- What the reference's sums tell. -/
def Sn.sumR (op a : Int) (x y : Sn.S) : Sn.S × Bool :=
  if op = 5 then ((Wd.msk a - x.2, Wd.msk a - x.1), true)
  else if op = 8 ∧ x.2 + y.2 ≤ Wd.msk a then ((x.1 + y.1, x.2 + y.2), true)
  else if op = 8 ∧ Wd.msk a < x.1 + y.1 then ((x.1 + y.1 - (Wd.msk a + 1), x.2 + y.2 - (Wd.msk a + 1)), true)
  else if op = 9 ∧ y.2 ≤ x.1 then ((x.1 - y.2, x.2 - y.1), true)
  else if op = 9 ∧ x.2 < y.1 then ((x.1 - y.2 + (Wd.msk a + 1), x.2 - y.1 + (Wd.msk a + 1)), true)
  else if op = 10 ∧ x.2 * y.2 ≤ Wd.msk a then ((x.1 * y.1, x.2 * y.2), true)
  else ((0, 0), false)

set_option maxHeartbeats 25600000 in
theorem rsums_any (op a : Int) (x y : Sn.S) (hx : Sn.Ok a x) (hy : Sn.Ok a y) (w : World) :
    Calls Try.prog 34 #[.int .i64 op, .int .u64 (Wd.msk a), Sn.v x, Sn.v y] w fun e w' => e = .returned (.tuple #[Sn.v (Sn.sumR op a x y).1, .bool (Sn.sumR op a x y).2]) ∧ Below w.heap.size w w' := by
  obtain ⟨x1, x2⟩ := x
  obtain ⟨y1, y2⟩ := y
  have hm := Wd.msk_hi a
  have hx2 := hx
  have hy2 := hy
  unfold Sn.Ok at hx2 hy2
  dsimp only at hx2 hy2
  have hm1 := Wd.msk_lo a
  by_cases h5 : op = 5
  · subst h5
    rw [show Sn.sumR 5 a (x1, x2) (y1, y2) = ((Wd.msk a - x2, Wd.msk a - x1), true) by unfold Sn.sumR; rw [if_pos rfl]]
    show Calls Try.prog 34 #[.int .i64 5, .int .u64 (Wd.msk a), .agg #[.int .u64 x1, .int .u64 x2], .agg #[.int .u64 y1, .int .u64 y2]] w _
    go_enter Try.func34, Try.ntmps34
    go_upto_region 1 with (fail)
    have hB : Below w.heap.size w (((w.alloc (.cells #[.int .u64 x1, .int .u64 x2] 24)).alloc (.cells #[.int .u64 y1, .int .u64 y2] 24)).alloc (.cells #[.int .u64 0, .int .u64 0] 24)) := ((((Below.refl _ _).alloc (Nat.le_refl _) _).alloc (by simp) _).alloc (by simp; omega) _)
    have hr0 : Sn.Bk (((w.alloc (.cells #[.int .u64 x1, .int .u64 x2] 24)).alloc (.cells #[.int .u64 y1, .int .u64 y2] 24)).alloc (.cells #[.int .u64 0, .int .u64 0] 24)) (w.heap.size) 24 #[.int .u64 x1, .int .u64 x2] := Sn.bk_old (Sn.bk_old (Sn.bk_new _ _ _) _) _
    have hr1 : Sn.Bk (((w.alloc (.cells #[.int .u64 x1, .int .u64 x2] 24)).alloc (.cells #[.int .u64 y1, .int .u64 y2] 24)).alloc (.cells #[.int .u64 0, .int .u64 0] 24)) (w.heap.size + 1) 24 #[.int .u64 y1, .int .u64 y2] := Sn.bk_old (Sn.bk_at (by simp)) _
    have hr2 : Sn.Bk (((w.alloc (.cells #[.int .u64 x1, .int .u64 x2] 24)).alloc (.cells #[.int .u64 y1, .int .u64 y2] 24)).alloc (.cells #[.int .u64 0, .int .u64 0] 24)) (w.heap.size + 1 + 1) 24 #[.int .u64 0, .int .u64 0] := Sn.bk_at (by simp)
    generalize (((w.alloc (.cells #[.int .u64 x1, .int .u64 x2] 24)).alloc (.cells #[.int .u64 y1, .int .u64 y2] 24)).alloc (.cells #[.int .u64 0, .int .u64 0] 24)) = v at *
    have HB := Lib.hid hB
    have HR0 := Lib.hid hr0
    have HR1 := Lib.hid hr1
    have HR2 := Lib.hid hr2
    clear hB hr0 hr1 hr2
    refine qc_all (fun W => Below v.heap.size v W) (by kernel_rfl) (by kernel_rfl) (Below.refl _ _).drew ?_
    refine qc_take (.pointer (some ⟨w.heap.size, 0, none⟩)) (by rfl) (fun W (hW : Below _ _ W) => ?_) ?_
    · skip
      go_simp
    try simp only [Act.put, List.setIfInBounds_toArray, List.set_cons_zero, List.set_cons_succ]
    refine qc_take (.int .u64 x1) (by rfl) (fun W (hW : Below _ _ W) => ?_) ?_
    · skip
      obtain ⟨y0, y1⟩ := Sn.c2 HR0.out hW
      go_simp
    try simp only [Act.put, List.setIfInBounds_toArray, List.set_cons_zero, List.set_cons_succ]
    refine qc_take (.pointer (some ⟨w.heap.size, 1, none⟩)) (by rfl) (fun W (hW : Below _ _ W) => ?_) ?_
    · skip
      go_simp
    try simp only [Act.put, List.setIfInBounds_toArray, List.set_cons_zero, List.set_cons_succ]
    refine qc_take (.int .u64 x2) (by rfl) (fun W (hW : Below _ _ W) => ?_) ?_
    · skip
      obtain ⟨y0, y1⟩ := Sn.c2 HR0.out hW
      go_simp
    try simp only [Act.put, List.setIfInBounds_toArray, List.set_cons_zero, List.set_cons_succ]
    refine qc_take (.pointer (some ⟨w.heap.size + 1, 0, none⟩)) (by rfl) (fun W (hW : Below _ _ W) => ?_) ?_
    · skip
      go_simp
    try simp only [Act.put, List.setIfInBounds_toArray, List.set_cons_zero, List.set_cons_succ]
    refine qc_take (.int .u64 y1) (by rfl) (fun W (hW : Below _ _ W) => ?_) ?_
    · skip
      obtain ⟨y0, y1⟩ := Sn.c2 HR1.out hW
      go_simp
    try simp only [Act.put, List.setIfInBounds_toArray, List.set_cons_zero, List.set_cons_succ]
    refine qc_take (.pointer (some ⟨w.heap.size + 1, 1, none⟩)) (by rfl) (fun W (hW : Below _ _ W) => ?_) ?_
    · skip
      go_simp
    try simp only [Act.put, List.setIfInBounds_toArray, List.set_cons_zero, List.set_cons_succ]
    refine qc_take (.int .u64 y2) (by rfl) (fun W (hW : Below _ _ W) => ?_) ?_
    · skip
      obtain ⟨y0, y1⟩ := Sn.c2 HR1.out hW
      go_simp
    try simp only [Act.put, List.setIfInBounds_toArray, List.set_cons_zero, List.set_cons_succ]
    refine qc_take (.int .u64 x1) (by rfl) (fun W (hW : Below _ _ W) => ?_) ?_
    · skip
      go_simp
    try simp only [Act.put, List.setIfInBounds_toArray, List.set_cons_zero, List.set_cons_succ]
    refine qc_take (.int .u64 x2) (by rfl) (fun W (hW : Below _ _ W) => ?_) ?_
    · skip
      go_simp
    try simp only [Act.put, List.setIfInBounds_toArray, List.set_cons_zero, List.set_cons_succ]
    refine qc_take (.int .u64 y1) (by rfl) (fun W (hW : Below _ _ W) => ?_) ?_
    · skip
      go_simp
    try simp only [Act.put, List.setIfInBounds_toArray, List.set_cons_zero, List.set_cons_succ]
    refine qc_take (.int .u64 y2) (by rfl) (fun W (hW : Below _ _ W) => ?_) ?_
    · skip
      go_simp
    try simp only [Act.put, List.setIfInBounds_toArray, List.set_cons_zero, List.set_cons_succ]
    refine wpQuiet_nil ?_
    intro v2 hb
    have hr2 := Sn.bk_below HR2.out hb (Sn.bk_lt HR2.out)
    have hB := Sn.below_next HB.out hb HB.out.size
    clear HB HR2 hb
    have HB := Lib.hid hB
    have HR2 := Lib.hid hr2
    clear hB hr2
    clear HR0 HR1 v
    rename World => v
    go_wp2_with (first | (with_reducible refine Sn.store_sp (.tmp 8) (.tmp 31) (w.heap.size + 1 + 1) #[.int .u64 0, .int .u64 0] _ HR2.out rfl rfl rfl rfl rfl rfl (by simp [Value.oneCell']) ?_))
    refine Sn.ret_sp2 (w.heap.size + 1 + 1) _ _ (Sn.bk_row HR2.out _) rfl rfl rfl rfl rfl ⟨Sn.ret_t _ ?_ ?_, Sn.below_set HB.out (by omega) _⟩
    all_goals first | rfl | omega | (simp only [IntKind.wrap_u64]; omega)
  have b5 : (op == 5) = false := by simpa using h5
  by_cases h8 : op = 8
  · subst h8
    by_cases g1 : x2 + y2 ≤ Wd.msk a
    · rw [show Sn.sumR 8 a (x1, x2) (y1, y2) = ((x1 + y1, x2 + y2), true) by unfold Sn.sumR; rw [if_neg (by omega), if_pos (by omega)]]
      show Calls Try.prog 34 #[.int .i64 8, .int .u64 (Wd.msk a), .agg #[.int .u64 x1, .int .u64 x2], .agg #[.int .u64 y1, .int .u64 y2]] w _
      go_enter Try.func34, Try.ntmps34
      go_upto_region 1 with (fail)
      have hB : Below w.heap.size w (((w.alloc (.cells #[.int .u64 x1, .int .u64 x2] 24)).alloc (.cells #[.int .u64 y1, .int .u64 y2] 24)).alloc (.cells #[.int .u64 0, .int .u64 0] 24)) := ((((Below.refl _ _).alloc (Nat.le_refl _) _).alloc (by simp) _).alloc (by simp; omega) _)
      have hr0 : Sn.Bk (((w.alloc (.cells #[.int .u64 x1, .int .u64 x2] 24)).alloc (.cells #[.int .u64 y1, .int .u64 y2] 24)).alloc (.cells #[.int .u64 0, .int .u64 0] 24)) (w.heap.size) 24 #[.int .u64 x1, .int .u64 x2] := Sn.bk_old (Sn.bk_old (Sn.bk_new _ _ _) _) _
      have hr1 : Sn.Bk (((w.alloc (.cells #[.int .u64 x1, .int .u64 x2] 24)).alloc (.cells #[.int .u64 y1, .int .u64 y2] 24)).alloc (.cells #[.int .u64 0, .int .u64 0] 24)) (w.heap.size + 1) 24 #[.int .u64 y1, .int .u64 y2] := Sn.bk_old (Sn.bk_at (by simp)) _
      have hr2 : Sn.Bk (((w.alloc (.cells #[.int .u64 x1, .int .u64 x2] 24)).alloc (.cells #[.int .u64 y1, .int .u64 y2] 24)).alloc (.cells #[.int .u64 0, .int .u64 0] 24)) (w.heap.size + 1 + 1) 24 #[.int .u64 0, .int .u64 0] := Sn.bk_at (by simp)
      generalize (((w.alloc (.cells #[.int .u64 x1, .int .u64 x2] 24)).alloc (.cells #[.int .u64 y1, .int .u64 y2] 24)).alloc (.cells #[.int .u64 0, .int .u64 0] 24)) = v at *
      have HB := Lib.hid hB
      have HR0 := Lib.hid hr0
      have HR1 := Lib.hid hr1
      have HR2 := Lib.hid hr2
      clear hB hr0 hr1 hr2
      refine qc_all (fun W => Below v.heap.size v W) (by kernel_rfl) (by kernel_rfl) (Below.refl _ _).drew ?_
      refine qc_take (.pointer (some ⟨w.heap.size, 0, none⟩)) (by rfl) (fun W (hW : Below _ _ W) => ?_) ?_
      · skip
        go_simp
      try simp only [Act.put, List.setIfInBounds_toArray, List.set_cons_zero, List.set_cons_succ]
      refine qc_take (.int .u64 x1) (by rfl) (fun W (hW : Below _ _ W) => ?_) ?_
      · skip
        obtain ⟨y0, y1⟩ := Sn.c2 HR0.out hW
        go_simp
      try simp only [Act.put, List.setIfInBounds_toArray, List.set_cons_zero, List.set_cons_succ]
      refine qc_take (.pointer (some ⟨w.heap.size, 1, none⟩)) (by rfl) (fun W (hW : Below _ _ W) => ?_) ?_
      · skip
        go_simp
      try simp only [Act.put, List.setIfInBounds_toArray, List.set_cons_zero, List.set_cons_succ]
      refine qc_take (.int .u64 x2) (by rfl) (fun W (hW : Below _ _ W) => ?_) ?_
      · skip
        obtain ⟨y0, y1⟩ := Sn.c2 HR0.out hW
        go_simp
      try simp only [Act.put, List.setIfInBounds_toArray, List.set_cons_zero, List.set_cons_succ]
      refine qc_take (.pointer (some ⟨w.heap.size + 1, 0, none⟩)) (by rfl) (fun W (hW : Below _ _ W) => ?_) ?_
      · skip
        go_simp
      try simp only [Act.put, List.setIfInBounds_toArray, List.set_cons_zero, List.set_cons_succ]
      refine qc_take (.int .u64 y1) (by rfl) (fun W (hW : Below _ _ W) => ?_) ?_
      · skip
        obtain ⟨y0, y1⟩ := Sn.c2 HR1.out hW
        go_simp
      try simp only [Act.put, List.setIfInBounds_toArray, List.set_cons_zero, List.set_cons_succ]
      refine qc_take (.pointer (some ⟨w.heap.size + 1, 1, none⟩)) (by rfl) (fun W (hW : Below _ _ W) => ?_) ?_
      · skip
        go_simp
      try simp only [Act.put, List.setIfInBounds_toArray, List.set_cons_zero, List.set_cons_succ]
      refine qc_take (.int .u64 y2) (by rfl) (fun W (hW : Below _ _ W) => ?_) ?_
      · skip
        obtain ⟨y0, y1⟩ := Sn.c2 HR1.out hW
        go_simp
      try simp only [Act.put, List.setIfInBounds_toArray, List.set_cons_zero, List.set_cons_succ]
      refine qc_take (.int .u64 x1) (by rfl) (fun W (hW : Below _ _ W) => ?_) ?_
      · skip
        go_simp
      try simp only [Act.put, List.setIfInBounds_toArray, List.set_cons_zero, List.set_cons_succ]
      refine qc_take (.int .u64 x2) (by rfl) (fun W (hW : Below _ _ W) => ?_) ?_
      · skip
        go_simp
      try simp only [Act.put, List.setIfInBounds_toArray, List.set_cons_zero, List.set_cons_succ]
      refine qc_take (.int .u64 y1) (by rfl) (fun W (hW : Below _ _ W) => ?_) ?_
      · skip
        go_simp
      try simp only [Act.put, List.setIfInBounds_toArray, List.set_cons_zero, List.set_cons_succ]
      refine qc_take (.int .u64 y2) (by rfl) (fun W (hW : Below _ _ W) => ?_) ?_
      · skip
        go_simp
      try simp only [Act.put, List.setIfInBounds_toArray, List.set_cons_zero, List.set_cons_succ]
      refine wpQuiet_nil ?_
      intro v2 hb
      have hr2 := Sn.bk_below HR2.out hb (Sn.bk_lt HR2.out)
      have hB := Sn.below_next HB.out hb HB.out.size
      clear HB HR2 hb
      have HB := Lib.hid hB
      have HR2 := Lib.hid hr2
      clear hB hr2
      clear HR0 HR1 v
      rename World => v
      go_wp2_with (first | (go_at_call 77; refine (rover_is false (by omega) (by omega) (by omega) (by omega) (by simp; omega) _).mono ?_; rintro e w9 ⟨rfl, rfl⟩) | (with_reducible refine Sn.store_sp (.tmp 8) (.tmp 48) (w.heap.size + 1 + 1) #[.int .u64 0, .int .u64 0] _ HR2.out rfl rfl rfl rfl rfl rfl (by simp [Value.oneCell']) ?_))
      refine Sn.ret_sp2 (w.heap.size + 1 + 1) _ _ (Sn.bk_row HR2.out _) rfl rfl rfl rfl rfl ⟨Sn.ret_t _ ?_ ?_, Sn.below_set HB.out (by omega) _⟩
      all_goals first | rfl | omega | (simp only [IntKind.wrap_u64]; omega)
    · by_cases g2 : Wd.msk a < x1 + y1
      · rw [show Sn.sumR 8 a (x1, x2) (y1, y2) = ((x1 + y1 - (Wd.msk a + 1), x2 + y2 - (Wd.msk a + 1)), true) by unfold Sn.sumR; rw [if_neg (by omega), if_neg (by omega), if_pos (by omega)]]
        show Calls Try.prog 34 #[.int .i64 8, .int .u64 (Wd.msk a), .agg #[.int .u64 x1, .int .u64 x2], .agg #[.int .u64 y1, .int .u64 y2]] w _
        go_enter Try.func34, Try.ntmps34
        go_upto_region 1 with (fail)
        have hB : Below w.heap.size w (((w.alloc (.cells #[.int .u64 x1, .int .u64 x2] 24)).alloc (.cells #[.int .u64 y1, .int .u64 y2] 24)).alloc (.cells #[.int .u64 0, .int .u64 0] 24)) := ((((Below.refl _ _).alloc (Nat.le_refl _) _).alloc (by simp) _).alloc (by simp; omega) _)
        have hr0 : Sn.Bk (((w.alloc (.cells #[.int .u64 x1, .int .u64 x2] 24)).alloc (.cells #[.int .u64 y1, .int .u64 y2] 24)).alloc (.cells #[.int .u64 0, .int .u64 0] 24)) (w.heap.size) 24 #[.int .u64 x1, .int .u64 x2] := Sn.bk_old (Sn.bk_old (Sn.bk_new _ _ _) _) _
        have hr1 : Sn.Bk (((w.alloc (.cells #[.int .u64 x1, .int .u64 x2] 24)).alloc (.cells #[.int .u64 y1, .int .u64 y2] 24)).alloc (.cells #[.int .u64 0, .int .u64 0] 24)) (w.heap.size + 1) 24 #[.int .u64 y1, .int .u64 y2] := Sn.bk_old (Sn.bk_at (by simp)) _
        have hr2 : Sn.Bk (((w.alloc (.cells #[.int .u64 x1, .int .u64 x2] 24)).alloc (.cells #[.int .u64 y1, .int .u64 y2] 24)).alloc (.cells #[.int .u64 0, .int .u64 0] 24)) (w.heap.size + 1 + 1) 24 #[.int .u64 0, .int .u64 0] := Sn.bk_at (by simp)
        generalize (((w.alloc (.cells #[.int .u64 x1, .int .u64 x2] 24)).alloc (.cells #[.int .u64 y1, .int .u64 y2] 24)).alloc (.cells #[.int .u64 0, .int .u64 0] 24)) = v at *
        have HB := Lib.hid hB
        have HR0 := Lib.hid hr0
        have HR1 := Lib.hid hr1
        have HR2 := Lib.hid hr2
        clear hB hr0 hr1 hr2
        refine qc_all (fun W => Below v.heap.size v W) (by kernel_rfl) (by kernel_rfl) (Below.refl _ _).drew ?_
        refine qc_take (.pointer (some ⟨w.heap.size, 0, none⟩)) (by rfl) (fun W (hW : Below _ _ W) => ?_) ?_
        · skip
          go_simp
        try simp only [Act.put, List.setIfInBounds_toArray, List.set_cons_zero, List.set_cons_succ]
        refine qc_take (.int .u64 x1) (by rfl) (fun W (hW : Below _ _ W) => ?_) ?_
        · skip
          obtain ⟨y0, y1⟩ := Sn.c2 HR0.out hW
          go_simp
        try simp only [Act.put, List.setIfInBounds_toArray, List.set_cons_zero, List.set_cons_succ]
        refine qc_take (.pointer (some ⟨w.heap.size, 1, none⟩)) (by rfl) (fun W (hW : Below _ _ W) => ?_) ?_
        · skip
          go_simp
        try simp only [Act.put, List.setIfInBounds_toArray, List.set_cons_zero, List.set_cons_succ]
        refine qc_take (.int .u64 x2) (by rfl) (fun W (hW : Below _ _ W) => ?_) ?_
        · skip
          obtain ⟨y0, y1⟩ := Sn.c2 HR0.out hW
          go_simp
        try simp only [Act.put, List.setIfInBounds_toArray, List.set_cons_zero, List.set_cons_succ]
        refine qc_take (.pointer (some ⟨w.heap.size + 1, 0, none⟩)) (by rfl) (fun W (hW : Below _ _ W) => ?_) ?_
        · skip
          go_simp
        try simp only [Act.put, List.setIfInBounds_toArray, List.set_cons_zero, List.set_cons_succ]
        refine qc_take (.int .u64 y1) (by rfl) (fun W (hW : Below _ _ W) => ?_) ?_
        · skip
          obtain ⟨y0, y1⟩ := Sn.c2 HR1.out hW
          go_simp
        try simp only [Act.put, List.setIfInBounds_toArray, List.set_cons_zero, List.set_cons_succ]
        refine qc_take (.pointer (some ⟨w.heap.size + 1, 1, none⟩)) (by rfl) (fun W (hW : Below _ _ W) => ?_) ?_
        · skip
          go_simp
        try simp only [Act.put, List.setIfInBounds_toArray, List.set_cons_zero, List.set_cons_succ]
        refine qc_take (.int .u64 y2) (by rfl) (fun W (hW : Below _ _ W) => ?_) ?_
        · skip
          obtain ⟨y0, y1⟩ := Sn.c2 HR1.out hW
          go_simp
        try simp only [Act.put, List.setIfInBounds_toArray, List.set_cons_zero, List.set_cons_succ]
        refine qc_take (.int .u64 x1) (by rfl) (fun W (hW : Below _ _ W) => ?_) ?_
        · skip
          go_simp
        try simp only [Act.put, List.setIfInBounds_toArray, List.set_cons_zero, List.set_cons_succ]
        refine qc_take (.int .u64 x2) (by rfl) (fun W (hW : Below _ _ W) => ?_) ?_
        · skip
          go_simp
        try simp only [Act.put, List.setIfInBounds_toArray, List.set_cons_zero, List.set_cons_succ]
        refine qc_take (.int .u64 y1) (by rfl) (fun W (hW : Below _ _ W) => ?_) ?_
        · skip
          go_simp
        try simp only [Act.put, List.setIfInBounds_toArray, List.set_cons_zero, List.set_cons_succ]
        refine qc_take (.int .u64 y2) (by rfl) (fun W (hW : Below _ _ W) => ?_) ?_
        · skip
          go_simp
        try simp only [Act.put, List.setIfInBounds_toArray, List.set_cons_zero, List.set_cons_succ]
        refine wpQuiet_nil ?_
        intro v2 hb
        have hr2 := Sn.bk_below HR2.out hb (Sn.bk_lt HR2.out)
        have hB := Sn.below_next HB.out hb HB.out.size
        clear HB HR2 hb
        have HB := Lib.hid hB
        have HR2 := Lib.hid hr2
        clear hB hr2
        clear HR0 HR1 v
        rename World => v
        go_wp2_with (first | (go_at_call 77; refine (rover_is true (by omega) (by omega) (by omega) (by omega) (by simp; omega) _).mono ?_; rintro e w9 ⟨rfl, rfl⟩) | (with_reducible refine Sn.store_sp (.tmp 8) (.tmp 70) (w.heap.size + 1 + 1) #[.int .u64 0, .int .u64 0] _ HR2.out rfl rfl rfl rfl rfl rfl (by simp [Value.oneCell']) ?_))
        refine Sn.ret_sp2 (w.heap.size + 1 + 1) _ _ (Sn.bk_row HR2.out _) rfl rfl rfl rfl rfl ⟨Sn.ret_t _ ?_ ?_, Sn.below_set HB.out (by omega) _⟩
        all_goals first | rfl | omega | (simp only [IntKind.wrap_u64]; omega)
      · rw [show Sn.sumR 8 a (x1, x2) (y1, y2) = ((0, 0), false) by unfold Sn.sumR; rw [if_neg (by omega), if_neg (by omega), if_neg (by omega), if_neg (by omega), if_neg (by omega), if_neg (by omega)]]
        show Calls Try.prog 34 #[.int .i64 8, .int .u64 (Wd.msk a), .agg #[.int .u64 x1, .int .u64 x2], .agg #[.int .u64 y1, .int .u64 y2]] w _
        go_enter Try.func34, Try.ntmps34
        go_upto_region 1 with (fail)
        have hB : Below w.heap.size w (((w.alloc (.cells #[.int .u64 x1, .int .u64 x2] 24)).alloc (.cells #[.int .u64 y1, .int .u64 y2] 24)).alloc (.cells #[.int .u64 0, .int .u64 0] 24)) := ((((Below.refl _ _).alloc (Nat.le_refl _) _).alloc (by simp) _).alloc (by simp; omega) _)
        have hr0 : Sn.Bk (((w.alloc (.cells #[.int .u64 x1, .int .u64 x2] 24)).alloc (.cells #[.int .u64 y1, .int .u64 y2] 24)).alloc (.cells #[.int .u64 0, .int .u64 0] 24)) (w.heap.size) 24 #[.int .u64 x1, .int .u64 x2] := Sn.bk_old (Sn.bk_old (Sn.bk_new _ _ _) _) _
        have hr1 : Sn.Bk (((w.alloc (.cells #[.int .u64 x1, .int .u64 x2] 24)).alloc (.cells #[.int .u64 y1, .int .u64 y2] 24)).alloc (.cells #[.int .u64 0, .int .u64 0] 24)) (w.heap.size + 1) 24 #[.int .u64 y1, .int .u64 y2] := Sn.bk_old (Sn.bk_at (by simp)) _
        have hr2 : Sn.Bk (((w.alloc (.cells #[.int .u64 x1, .int .u64 x2] 24)).alloc (.cells #[.int .u64 y1, .int .u64 y2] 24)).alloc (.cells #[.int .u64 0, .int .u64 0] 24)) (w.heap.size + 1 + 1) 24 #[.int .u64 0, .int .u64 0] := Sn.bk_at (by simp)
        generalize (((w.alloc (.cells #[.int .u64 x1, .int .u64 x2] 24)).alloc (.cells #[.int .u64 y1, .int .u64 y2] 24)).alloc (.cells #[.int .u64 0, .int .u64 0] 24)) = v at *
        have HB := Lib.hid hB
        have HR0 := Lib.hid hr0
        have HR1 := Lib.hid hr1
        have HR2 := Lib.hid hr2
        clear hB hr0 hr1 hr2
        refine qc_all (fun W => Below v.heap.size v W) (by kernel_rfl) (by kernel_rfl) (Below.refl _ _).drew ?_
        refine qc_take (.pointer (some ⟨w.heap.size, 0, none⟩)) (by rfl) (fun W (hW : Below _ _ W) => ?_) ?_
        · skip
          go_simp
        try simp only [Act.put, List.setIfInBounds_toArray, List.set_cons_zero, List.set_cons_succ]
        refine qc_take (.int .u64 x1) (by rfl) (fun W (hW : Below _ _ W) => ?_) ?_
        · skip
          obtain ⟨y0, y1⟩ := Sn.c2 HR0.out hW
          go_simp
        try simp only [Act.put, List.setIfInBounds_toArray, List.set_cons_zero, List.set_cons_succ]
        refine qc_take (.pointer (some ⟨w.heap.size, 1, none⟩)) (by rfl) (fun W (hW : Below _ _ W) => ?_) ?_
        · skip
          go_simp
        try simp only [Act.put, List.setIfInBounds_toArray, List.set_cons_zero, List.set_cons_succ]
        refine qc_take (.int .u64 x2) (by rfl) (fun W (hW : Below _ _ W) => ?_) ?_
        · skip
          obtain ⟨y0, y1⟩ := Sn.c2 HR0.out hW
          go_simp
        try simp only [Act.put, List.setIfInBounds_toArray, List.set_cons_zero, List.set_cons_succ]
        refine qc_take (.pointer (some ⟨w.heap.size + 1, 0, none⟩)) (by rfl) (fun W (hW : Below _ _ W) => ?_) ?_
        · skip
          go_simp
        try simp only [Act.put, List.setIfInBounds_toArray, List.set_cons_zero, List.set_cons_succ]
        refine qc_take (.int .u64 y1) (by rfl) (fun W (hW : Below _ _ W) => ?_) ?_
        · skip
          obtain ⟨y0, y1⟩ := Sn.c2 HR1.out hW
          go_simp
        try simp only [Act.put, List.setIfInBounds_toArray, List.set_cons_zero, List.set_cons_succ]
        refine qc_take (.pointer (some ⟨w.heap.size + 1, 1, none⟩)) (by rfl) (fun W (hW : Below _ _ W) => ?_) ?_
        · skip
          go_simp
        try simp only [Act.put, List.setIfInBounds_toArray, List.set_cons_zero, List.set_cons_succ]
        refine qc_take (.int .u64 y2) (by rfl) (fun W (hW : Below _ _ W) => ?_) ?_
        · skip
          obtain ⟨y0, y1⟩ := Sn.c2 HR1.out hW
          go_simp
        try simp only [Act.put, List.setIfInBounds_toArray, List.set_cons_zero, List.set_cons_succ]
        refine qc_take (.int .u64 x1) (by rfl) (fun W (hW : Below _ _ W) => ?_) ?_
        · skip
          go_simp
        try simp only [Act.put, List.setIfInBounds_toArray, List.set_cons_zero, List.set_cons_succ]
        refine qc_take (.int .u64 x2) (by rfl) (fun W (hW : Below _ _ W) => ?_) ?_
        · skip
          go_simp
        try simp only [Act.put, List.setIfInBounds_toArray, List.set_cons_zero, List.set_cons_succ]
        refine qc_take (.int .u64 y1) (by rfl) (fun W (hW : Below _ _ W) => ?_) ?_
        · skip
          go_simp
        try simp only [Act.put, List.setIfInBounds_toArray, List.set_cons_zero, List.set_cons_succ]
        refine qc_take (.int .u64 y2) (by rfl) (fun W (hW : Below _ _ W) => ?_) ?_
        · skip
          go_simp
        try simp only [Act.put, List.setIfInBounds_toArray, List.set_cons_zero, List.set_cons_succ]
        refine wpQuiet_nil ?_
        intro v2 hb
        have hr2 := Sn.bk_below HR2.out hb (Sn.bk_lt HR2.out)
        have hB := Sn.below_next HB.out hb HB.out.size
        clear HB HR2 hb
        have HB := Lib.hid hB
        have HR2 := Lib.hid hr2
        clear hB hr2
        clear HR0 HR1 v
        rename World => v
        go_wp2_with (first | (go_at_call 77; refine (rover_is true (by omega) (by omega) (by omega) (by omega) (by simp; omega) _).mono ?_; rintro e w9 ⟨rfl, rfl⟩) | (go_at_call 77; refine (rover_is false (by omega) (by omega) (by omega) (by omega) (by simp; omega) _).mono ?_; rintro e w9 ⟨rfl, rfl⟩) | (with_reducible refine Sn.store_sp (.tmp 8) (.tmp 123) (w.heap.size + 1 + 1) #[.int .u64 0, .int .u64 0] _ HR2.out rfl rfl rfl rfl rfl rfl (by simp [Value.oneCell']) ?_))
        refine Sn.ret_sp2 (w.heap.size + 1 + 1) _ _ (Sn.bk_row HR2.out _) rfl rfl rfl rfl rfl ⟨Sn.ret_t _ ?_ ?_, Sn.below_set HB.out (by omega) _⟩
        all_goals first | rfl | omega | (simp only [IntKind.wrap_u64]; omega)
  have b8 : (op == 8) = false := by simpa using h8
  by_cases h9 : op = 9
  · subst h9
    by_cases g1 : y2 ≤ x1
    · rw [show Sn.sumR 9 a (x1, x2) (y1, y2) = ((x1 - y2, x2 - y1), true) by unfold Sn.sumR; rw [if_neg (by omega), if_neg (by omega), if_neg (by omega), if_pos (by omega)]]
      show Calls Try.prog 34 #[.int .i64 9, .int .u64 (Wd.msk a), .agg #[.int .u64 x1, .int .u64 x2], .agg #[.int .u64 y1, .int .u64 y2]] w _
      go_enter Try.func34, Try.ntmps34
      go_upto_region 1 with (fail)
      have hB : Below w.heap.size w (((w.alloc (.cells #[.int .u64 x1, .int .u64 x2] 24)).alloc (.cells #[.int .u64 y1, .int .u64 y2] 24)).alloc (.cells #[.int .u64 0, .int .u64 0] 24)) := ((((Below.refl _ _).alloc (Nat.le_refl _) _).alloc (by simp) _).alloc (by simp; omega) _)
      have hr0 : Sn.Bk (((w.alloc (.cells #[.int .u64 x1, .int .u64 x2] 24)).alloc (.cells #[.int .u64 y1, .int .u64 y2] 24)).alloc (.cells #[.int .u64 0, .int .u64 0] 24)) (w.heap.size) 24 #[.int .u64 x1, .int .u64 x2] := Sn.bk_old (Sn.bk_old (Sn.bk_new _ _ _) _) _
      have hr1 : Sn.Bk (((w.alloc (.cells #[.int .u64 x1, .int .u64 x2] 24)).alloc (.cells #[.int .u64 y1, .int .u64 y2] 24)).alloc (.cells #[.int .u64 0, .int .u64 0] 24)) (w.heap.size + 1) 24 #[.int .u64 y1, .int .u64 y2] := Sn.bk_old (Sn.bk_at (by simp)) _
      have hr2 : Sn.Bk (((w.alloc (.cells #[.int .u64 x1, .int .u64 x2] 24)).alloc (.cells #[.int .u64 y1, .int .u64 y2] 24)).alloc (.cells #[.int .u64 0, .int .u64 0] 24)) (w.heap.size + 1 + 1) 24 #[.int .u64 0, .int .u64 0] := Sn.bk_at (by simp)
      generalize (((w.alloc (.cells #[.int .u64 x1, .int .u64 x2] 24)).alloc (.cells #[.int .u64 y1, .int .u64 y2] 24)).alloc (.cells #[.int .u64 0, .int .u64 0] 24)) = v at *
      have HB := Lib.hid hB
      have HR0 := Lib.hid hr0
      have HR1 := Lib.hid hr1
      have HR2 := Lib.hid hr2
      clear hB hr0 hr1 hr2
      refine qc_all (fun W => Below v.heap.size v W) (by kernel_rfl) (by kernel_rfl) (Below.refl _ _).drew ?_
      refine qc_take (.pointer (some ⟨w.heap.size, 0, none⟩)) (by rfl) (fun W (hW : Below _ _ W) => ?_) ?_
      · skip
        go_simp
      try simp only [Act.put, List.setIfInBounds_toArray, List.set_cons_zero, List.set_cons_succ]
      refine qc_take (.int .u64 x1) (by rfl) (fun W (hW : Below _ _ W) => ?_) ?_
      · skip
        obtain ⟨y0, y1⟩ := Sn.c2 HR0.out hW
        go_simp
      try simp only [Act.put, List.setIfInBounds_toArray, List.set_cons_zero, List.set_cons_succ]
      refine qc_take (.pointer (some ⟨w.heap.size, 1, none⟩)) (by rfl) (fun W (hW : Below _ _ W) => ?_) ?_
      · skip
        go_simp
      try simp only [Act.put, List.setIfInBounds_toArray, List.set_cons_zero, List.set_cons_succ]
      refine qc_take (.int .u64 x2) (by rfl) (fun W (hW : Below _ _ W) => ?_) ?_
      · skip
        obtain ⟨y0, y1⟩ := Sn.c2 HR0.out hW
        go_simp
      try simp only [Act.put, List.setIfInBounds_toArray, List.set_cons_zero, List.set_cons_succ]
      refine qc_take (.pointer (some ⟨w.heap.size + 1, 0, none⟩)) (by rfl) (fun W (hW : Below _ _ W) => ?_) ?_
      · skip
        go_simp
      try simp only [Act.put, List.setIfInBounds_toArray, List.set_cons_zero, List.set_cons_succ]
      refine qc_take (.int .u64 y1) (by rfl) (fun W (hW : Below _ _ W) => ?_) ?_
      · skip
        obtain ⟨y0, y1⟩ := Sn.c2 HR1.out hW
        go_simp
      try simp only [Act.put, List.setIfInBounds_toArray, List.set_cons_zero, List.set_cons_succ]
      refine qc_take (.pointer (some ⟨w.heap.size + 1, 1, none⟩)) (by rfl) (fun W (hW : Below _ _ W) => ?_) ?_
      · skip
        go_simp
      try simp only [Act.put, List.setIfInBounds_toArray, List.set_cons_zero, List.set_cons_succ]
      refine qc_take (.int .u64 y2) (by rfl) (fun W (hW : Below _ _ W) => ?_) ?_
      · skip
        obtain ⟨y0, y1⟩ := Sn.c2 HR1.out hW
        go_simp
      try simp only [Act.put, List.setIfInBounds_toArray, List.set_cons_zero, List.set_cons_succ]
      refine qc_take (.int .u64 x1) (by rfl) (fun W (hW : Below _ _ W) => ?_) ?_
      · skip
        go_simp
      try simp only [Act.put, List.setIfInBounds_toArray, List.set_cons_zero, List.set_cons_succ]
      refine qc_take (.int .u64 x2) (by rfl) (fun W (hW : Below _ _ W) => ?_) ?_
      · skip
        go_simp
      try simp only [Act.put, List.setIfInBounds_toArray, List.set_cons_zero, List.set_cons_succ]
      refine qc_take (.int .u64 y1) (by rfl) (fun W (hW : Below _ _ W) => ?_) ?_
      · skip
        go_simp
      try simp only [Act.put, List.setIfInBounds_toArray, List.set_cons_zero, List.set_cons_succ]
      refine qc_take (.int .u64 y2) (by rfl) (fun W (hW : Below _ _ W) => ?_) ?_
      · skip
        go_simp
      try simp only [Act.put, List.setIfInBounds_toArray, List.set_cons_zero, List.set_cons_succ]
      refine wpQuiet_nil ?_
      intro v2 hb
      have hr2 := Sn.bk_below HR2.out hb (Sn.bk_lt HR2.out)
      have hB := Sn.below_next HB.out hb HB.out.size
      clear HB HR2 hb
      have HB := Lib.hid hB
      have HR2 := Lib.hid hr2
      clear hB hr2
      clear HR0 HR1 v
      rename World => v
      go_wp2_with (first | (with_reducible refine Sn.store_sp (.tmp 8) (.tmp 85) (w.heap.size + 1 + 1) #[.int .u64 0, .int .u64 0] _ HR2.out rfl rfl rfl rfl rfl rfl (by simp [Value.oneCell']) ?_))
      refine Sn.ret_sp2 (w.heap.size + 1 + 1) _ _ (Sn.bk_row HR2.out _) rfl rfl rfl rfl rfl ⟨Sn.ret_t _ ?_ ?_, Sn.below_set HB.out (by omega) _⟩
      all_goals first | rfl | omega | (simp only [IntKind.wrap_u64]; omega)
    · by_cases g2 : x2 < y1
      · rw [show Sn.sumR 9 a (x1, x2) (y1, y2) = ((x1 - y2 + (Wd.msk a + 1), x2 - y1 + (Wd.msk a + 1)), true) by unfold Sn.sumR; rw [if_neg (by omega), if_neg (by omega), if_neg (by omega), if_neg (by omega), if_pos (by omega)]]
        show Calls Try.prog 34 #[.int .i64 9, .int .u64 (Wd.msk a), .agg #[.int .u64 x1, .int .u64 x2], .agg #[.int .u64 y1, .int .u64 y2]] w _
        go_enter Try.func34, Try.ntmps34
        go_upto_region 1 with (fail)
        have hB : Below w.heap.size w (((w.alloc (.cells #[.int .u64 x1, .int .u64 x2] 24)).alloc (.cells #[.int .u64 y1, .int .u64 y2] 24)).alloc (.cells #[.int .u64 0, .int .u64 0] 24)) := ((((Below.refl _ _).alloc (Nat.le_refl _) _).alloc (by simp) _).alloc (by simp; omega) _)
        have hr0 : Sn.Bk (((w.alloc (.cells #[.int .u64 x1, .int .u64 x2] 24)).alloc (.cells #[.int .u64 y1, .int .u64 y2] 24)).alloc (.cells #[.int .u64 0, .int .u64 0] 24)) (w.heap.size) 24 #[.int .u64 x1, .int .u64 x2] := Sn.bk_old (Sn.bk_old (Sn.bk_new _ _ _) _) _
        have hr1 : Sn.Bk (((w.alloc (.cells #[.int .u64 x1, .int .u64 x2] 24)).alloc (.cells #[.int .u64 y1, .int .u64 y2] 24)).alloc (.cells #[.int .u64 0, .int .u64 0] 24)) (w.heap.size + 1) 24 #[.int .u64 y1, .int .u64 y2] := Sn.bk_old (Sn.bk_at (by simp)) _
        have hr2 : Sn.Bk (((w.alloc (.cells #[.int .u64 x1, .int .u64 x2] 24)).alloc (.cells #[.int .u64 y1, .int .u64 y2] 24)).alloc (.cells #[.int .u64 0, .int .u64 0] 24)) (w.heap.size + 1 + 1) 24 #[.int .u64 0, .int .u64 0] := Sn.bk_at (by simp)
        generalize (((w.alloc (.cells #[.int .u64 x1, .int .u64 x2] 24)).alloc (.cells #[.int .u64 y1, .int .u64 y2] 24)).alloc (.cells #[.int .u64 0, .int .u64 0] 24)) = v at *
        have HB := Lib.hid hB
        have HR0 := Lib.hid hr0
        have HR1 := Lib.hid hr1
        have HR2 := Lib.hid hr2
        clear hB hr0 hr1 hr2
        refine qc_all (fun W => Below v.heap.size v W) (by kernel_rfl) (by kernel_rfl) (Below.refl _ _).drew ?_
        refine qc_take (.pointer (some ⟨w.heap.size, 0, none⟩)) (by rfl) (fun W (hW : Below _ _ W) => ?_) ?_
        · skip
          go_simp
        try simp only [Act.put, List.setIfInBounds_toArray, List.set_cons_zero, List.set_cons_succ]
        refine qc_take (.int .u64 x1) (by rfl) (fun W (hW : Below _ _ W) => ?_) ?_
        · skip
          obtain ⟨y0, y1⟩ := Sn.c2 HR0.out hW
          go_simp
        try simp only [Act.put, List.setIfInBounds_toArray, List.set_cons_zero, List.set_cons_succ]
        refine qc_take (.pointer (some ⟨w.heap.size, 1, none⟩)) (by rfl) (fun W (hW : Below _ _ W) => ?_) ?_
        · skip
          go_simp
        try simp only [Act.put, List.setIfInBounds_toArray, List.set_cons_zero, List.set_cons_succ]
        refine qc_take (.int .u64 x2) (by rfl) (fun W (hW : Below _ _ W) => ?_) ?_
        · skip
          obtain ⟨y0, y1⟩ := Sn.c2 HR0.out hW
          go_simp
        try simp only [Act.put, List.setIfInBounds_toArray, List.set_cons_zero, List.set_cons_succ]
        refine qc_take (.pointer (some ⟨w.heap.size + 1, 0, none⟩)) (by rfl) (fun W (hW : Below _ _ W) => ?_) ?_
        · skip
          go_simp
        try simp only [Act.put, List.setIfInBounds_toArray, List.set_cons_zero, List.set_cons_succ]
        refine qc_take (.int .u64 y1) (by rfl) (fun W (hW : Below _ _ W) => ?_) ?_
        · skip
          obtain ⟨y0, y1⟩ := Sn.c2 HR1.out hW
          go_simp
        try simp only [Act.put, List.setIfInBounds_toArray, List.set_cons_zero, List.set_cons_succ]
        refine qc_take (.pointer (some ⟨w.heap.size + 1, 1, none⟩)) (by rfl) (fun W (hW : Below _ _ W) => ?_) ?_
        · skip
          go_simp
        try simp only [Act.put, List.setIfInBounds_toArray, List.set_cons_zero, List.set_cons_succ]
        refine qc_take (.int .u64 y2) (by rfl) (fun W (hW : Below _ _ W) => ?_) ?_
        · skip
          obtain ⟨y0, y1⟩ := Sn.c2 HR1.out hW
          go_simp
        try simp only [Act.put, List.setIfInBounds_toArray, List.set_cons_zero, List.set_cons_succ]
        refine qc_take (.int .u64 x1) (by rfl) (fun W (hW : Below _ _ W) => ?_) ?_
        · skip
          go_simp
        try simp only [Act.put, List.setIfInBounds_toArray, List.set_cons_zero, List.set_cons_succ]
        refine qc_take (.int .u64 x2) (by rfl) (fun W (hW : Below _ _ W) => ?_) ?_
        · skip
          go_simp
        try simp only [Act.put, List.setIfInBounds_toArray, List.set_cons_zero, List.set_cons_succ]
        refine qc_take (.int .u64 y1) (by rfl) (fun W (hW : Below _ _ W) => ?_) ?_
        · skip
          go_simp
        try simp only [Act.put, List.setIfInBounds_toArray, List.set_cons_zero, List.set_cons_succ]
        refine qc_take (.int .u64 y2) (by rfl) (fun W (hW : Below _ _ W) => ?_) ?_
        · skip
          go_simp
        try simp only [Act.put, List.setIfInBounds_toArray, List.set_cons_zero, List.set_cons_succ]
        refine wpQuiet_nil ?_
        intro v2 hb
        have hr2 := Sn.bk_below HR2.out hb (Sn.bk_lt HR2.out)
        have hB := Sn.below_next HB.out hb HB.out.size
        clear HB HR2 hb
        have HB := Lib.hid hB
        have HR2 := Lib.hid hr2
        clear hB hr2
        clear HR0 HR1 v
        rename World => v
        go_wp2_with (first | (with_reducible refine Sn.store_sp (.tmp 8) (.tmp 106) (w.heap.size + 1 + 1) #[.int .u64 0, .int .u64 0] _ HR2.out rfl rfl rfl rfl rfl rfl (by simp [Value.oneCell']) ?_))
        refine Sn.ret_sp2 (w.heap.size + 1 + 1) _ _ (Sn.bk_row HR2.out _) rfl rfl rfl rfl rfl ⟨Sn.ret_t _ ?_ ?_, Sn.below_set HB.out (by omega) _⟩
        all_goals first | rfl | omega | (simp only [IntKind.wrap_u64]; omega)
      · rw [show Sn.sumR 9 a (x1, x2) (y1, y2) = ((0, 0), false) by unfold Sn.sumR; rw [if_neg (by omega), if_neg (by omega), if_neg (by omega), if_neg (by omega), if_neg (by omega), if_neg (by omega)]]
        show Calls Try.prog 34 #[.int .i64 9, .int .u64 (Wd.msk a), .agg #[.int .u64 x1, .int .u64 x2], .agg #[.int .u64 y1, .int .u64 y2]] w _
        go_enter Try.func34, Try.ntmps34
        go_upto_region 1 with (fail)
        have hB : Below w.heap.size w (((w.alloc (.cells #[.int .u64 x1, .int .u64 x2] 24)).alloc (.cells #[.int .u64 y1, .int .u64 y2] 24)).alloc (.cells #[.int .u64 0, .int .u64 0] 24)) := ((((Below.refl _ _).alloc (Nat.le_refl _) _).alloc (by simp) _).alloc (by simp; omega) _)
        have hr0 : Sn.Bk (((w.alloc (.cells #[.int .u64 x1, .int .u64 x2] 24)).alloc (.cells #[.int .u64 y1, .int .u64 y2] 24)).alloc (.cells #[.int .u64 0, .int .u64 0] 24)) (w.heap.size) 24 #[.int .u64 x1, .int .u64 x2] := Sn.bk_old (Sn.bk_old (Sn.bk_new _ _ _) _) _
        have hr1 : Sn.Bk (((w.alloc (.cells #[.int .u64 x1, .int .u64 x2] 24)).alloc (.cells #[.int .u64 y1, .int .u64 y2] 24)).alloc (.cells #[.int .u64 0, .int .u64 0] 24)) (w.heap.size + 1) 24 #[.int .u64 y1, .int .u64 y2] := Sn.bk_old (Sn.bk_at (by simp)) _
        have hr2 : Sn.Bk (((w.alloc (.cells #[.int .u64 x1, .int .u64 x2] 24)).alloc (.cells #[.int .u64 y1, .int .u64 y2] 24)).alloc (.cells #[.int .u64 0, .int .u64 0] 24)) (w.heap.size + 1 + 1) 24 #[.int .u64 0, .int .u64 0] := Sn.bk_at (by simp)
        generalize (((w.alloc (.cells #[.int .u64 x1, .int .u64 x2] 24)).alloc (.cells #[.int .u64 y1, .int .u64 y2] 24)).alloc (.cells #[.int .u64 0, .int .u64 0] 24)) = v at *
        have HB := Lib.hid hB
        have HR0 := Lib.hid hr0
        have HR1 := Lib.hid hr1
        have HR2 := Lib.hid hr2
        clear hB hr0 hr1 hr2
        refine qc_all (fun W => Below v.heap.size v W) (by kernel_rfl) (by kernel_rfl) (Below.refl _ _).drew ?_
        refine qc_take (.pointer (some ⟨w.heap.size, 0, none⟩)) (by rfl) (fun W (hW : Below _ _ W) => ?_) ?_
        · skip
          go_simp
        try simp only [Act.put, List.setIfInBounds_toArray, List.set_cons_zero, List.set_cons_succ]
        refine qc_take (.int .u64 x1) (by rfl) (fun W (hW : Below _ _ W) => ?_) ?_
        · skip
          obtain ⟨y0, y1⟩ := Sn.c2 HR0.out hW
          go_simp
        try simp only [Act.put, List.setIfInBounds_toArray, List.set_cons_zero, List.set_cons_succ]
        refine qc_take (.pointer (some ⟨w.heap.size, 1, none⟩)) (by rfl) (fun W (hW : Below _ _ W) => ?_) ?_
        · skip
          go_simp
        try simp only [Act.put, List.setIfInBounds_toArray, List.set_cons_zero, List.set_cons_succ]
        refine qc_take (.int .u64 x2) (by rfl) (fun W (hW : Below _ _ W) => ?_) ?_
        · skip
          obtain ⟨y0, y1⟩ := Sn.c2 HR0.out hW
          go_simp
        try simp only [Act.put, List.setIfInBounds_toArray, List.set_cons_zero, List.set_cons_succ]
        refine qc_take (.pointer (some ⟨w.heap.size + 1, 0, none⟩)) (by rfl) (fun W (hW : Below _ _ W) => ?_) ?_
        · skip
          go_simp
        try simp only [Act.put, List.setIfInBounds_toArray, List.set_cons_zero, List.set_cons_succ]
        refine qc_take (.int .u64 y1) (by rfl) (fun W (hW : Below _ _ W) => ?_) ?_
        · skip
          obtain ⟨y0, y1⟩ := Sn.c2 HR1.out hW
          go_simp
        try simp only [Act.put, List.setIfInBounds_toArray, List.set_cons_zero, List.set_cons_succ]
        refine qc_take (.pointer (some ⟨w.heap.size + 1, 1, none⟩)) (by rfl) (fun W (hW : Below _ _ W) => ?_) ?_
        · skip
          go_simp
        try simp only [Act.put, List.setIfInBounds_toArray, List.set_cons_zero, List.set_cons_succ]
        refine qc_take (.int .u64 y2) (by rfl) (fun W (hW : Below _ _ W) => ?_) ?_
        · skip
          obtain ⟨y0, y1⟩ := Sn.c2 HR1.out hW
          go_simp
        try simp only [Act.put, List.setIfInBounds_toArray, List.set_cons_zero, List.set_cons_succ]
        refine qc_take (.int .u64 x1) (by rfl) (fun W (hW : Below _ _ W) => ?_) ?_
        · skip
          go_simp
        try simp only [Act.put, List.setIfInBounds_toArray, List.set_cons_zero, List.set_cons_succ]
        refine qc_take (.int .u64 x2) (by rfl) (fun W (hW : Below _ _ W) => ?_) ?_
        · skip
          go_simp
        try simp only [Act.put, List.setIfInBounds_toArray, List.set_cons_zero, List.set_cons_succ]
        refine qc_take (.int .u64 y1) (by rfl) (fun W (hW : Below _ _ W) => ?_) ?_
        · skip
          go_simp
        try simp only [Act.put, List.setIfInBounds_toArray, List.set_cons_zero, List.set_cons_succ]
        refine qc_take (.int .u64 y2) (by rfl) (fun W (hW : Below _ _ W) => ?_) ?_
        · skip
          go_simp
        try simp only [Act.put, List.setIfInBounds_toArray, List.set_cons_zero, List.set_cons_succ]
        refine wpQuiet_nil ?_
        intro v2 hb
        have hr2 := Sn.bk_below HR2.out hb (Sn.bk_lt HR2.out)
        have hB := Sn.below_next HB.out hb HB.out.size
        clear HB HR2 hb
        have HB := Lib.hid hB
        have HR2 := Lib.hid hr2
        clear hB hr2
        clear HR0 HR1 v
        rename World => v
        go_wp2_with (first | (with_reducible refine Sn.store_sp (.tmp 8) (.tmp 123) (w.heap.size + 1 + 1) #[.int .u64 0, .int .u64 0] _ HR2.out rfl rfl rfl rfl rfl rfl (by simp [Value.oneCell']) ?_))
        refine Sn.ret_sp2 (w.heap.size + 1 + 1) _ _ (Sn.bk_row HR2.out _) rfl rfl rfl rfl rfl ⟨Sn.ret_t _ ?_ ?_, Sn.below_set HB.out (by omega) _⟩
        all_goals first | rfl | omega | (simp only [IntKind.wrap_u64]; omega)
  have b9 : (op == 9) = false := by simpa using h9
  by_cases h10 : op = 10
  · subst h10
    have hn := Int.mul_nonneg (show 0 ≤ x2 by omega) (show 0 ≤ y2 by omega)
    have ht := Sn.mul_mono x1 x2 y1 y2 (by omega) (by omega) (by omega) (by omega)
    have hz := Int.mul_nonneg (show 0 ≤ x1 by omega) (show 0 ≤ y1 by omega)
    by_cases g1 : x2 * y2 ≤ Wd.msk a
    · rw [show Sn.sumR 10 a (x1, x2) (y1, y2) = ((x1 * y1, x2 * y2), true) by unfold Sn.sumR; rw [if_neg (by omega), if_neg (by omega), if_neg (by omega), if_neg (by omega), if_neg (by omega), if_pos ⟨rfl, g1⟩]]
      show Calls Try.prog 34 #[.int .i64 10, .int .u64 (Wd.msk a), .agg #[.int .u64 x1, .int .u64 x2], .agg #[.int .u64 y1, .int .u64 y2]] w _
      go_enter Try.func34, Try.ntmps34
      go_upto_region 1 with (fail)
      have hB : Below w.heap.size w (((w.alloc (.cells #[.int .u64 x1, .int .u64 x2] 24)).alloc (.cells #[.int .u64 y1, .int .u64 y2] 24)).alloc (.cells #[.int .u64 0, .int .u64 0] 24)) := ((((Below.refl _ _).alloc (Nat.le_refl _) _).alloc (by simp) _).alloc (by simp; omega) _)
      have hr0 : Sn.Bk (((w.alloc (.cells #[.int .u64 x1, .int .u64 x2] 24)).alloc (.cells #[.int .u64 y1, .int .u64 y2] 24)).alloc (.cells #[.int .u64 0, .int .u64 0] 24)) (w.heap.size) 24 #[.int .u64 x1, .int .u64 x2] := Sn.bk_old (Sn.bk_old (Sn.bk_new _ _ _) _) _
      have hr1 : Sn.Bk (((w.alloc (.cells #[.int .u64 x1, .int .u64 x2] 24)).alloc (.cells #[.int .u64 y1, .int .u64 y2] 24)).alloc (.cells #[.int .u64 0, .int .u64 0] 24)) (w.heap.size + 1) 24 #[.int .u64 y1, .int .u64 y2] := Sn.bk_old (Sn.bk_at (by simp)) _
      have hr2 : Sn.Bk (((w.alloc (.cells #[.int .u64 x1, .int .u64 x2] 24)).alloc (.cells #[.int .u64 y1, .int .u64 y2] 24)).alloc (.cells #[.int .u64 0, .int .u64 0] 24)) (w.heap.size + 1 + 1) 24 #[.int .u64 0, .int .u64 0] := Sn.bk_at (by simp)
      generalize (((w.alloc (.cells #[.int .u64 x1, .int .u64 x2] 24)).alloc (.cells #[.int .u64 y1, .int .u64 y2] 24)).alloc (.cells #[.int .u64 0, .int .u64 0] 24)) = v at *
      have HB := Lib.hid hB
      have HR0 := Lib.hid hr0
      have HR1 := Lib.hid hr1
      have HR2 := Lib.hid hr2
      clear hB hr0 hr1 hr2
      refine qc_all (fun W => Below v.heap.size v W) (by kernel_rfl) (by kernel_rfl) (Below.refl _ _).drew ?_
      refine qc_take (.pointer (some ⟨w.heap.size, 0, none⟩)) (by rfl) (fun W (hW : Below _ _ W) => ?_) ?_
      · skip
        go_simp
      try simp only [Act.put, List.setIfInBounds_toArray, List.set_cons_zero, List.set_cons_succ]
      refine qc_take (.int .u64 x1) (by rfl) (fun W (hW : Below _ _ W) => ?_) ?_
      · skip
        obtain ⟨y0, y1⟩ := Sn.c2 HR0.out hW
        go_simp
      try simp only [Act.put, List.setIfInBounds_toArray, List.set_cons_zero, List.set_cons_succ]
      refine qc_take (.pointer (some ⟨w.heap.size, 1, none⟩)) (by rfl) (fun W (hW : Below _ _ W) => ?_) ?_
      · skip
        go_simp
      try simp only [Act.put, List.setIfInBounds_toArray, List.set_cons_zero, List.set_cons_succ]
      refine qc_take (.int .u64 x2) (by rfl) (fun W (hW : Below _ _ W) => ?_) ?_
      · skip
        obtain ⟨y0, y1⟩ := Sn.c2 HR0.out hW
        go_simp
      try simp only [Act.put, List.setIfInBounds_toArray, List.set_cons_zero, List.set_cons_succ]
      refine qc_take (.pointer (some ⟨w.heap.size + 1, 0, none⟩)) (by rfl) (fun W (hW : Below _ _ W) => ?_) ?_
      · skip
        go_simp
      try simp only [Act.put, List.setIfInBounds_toArray, List.set_cons_zero, List.set_cons_succ]
      refine qc_take (.int .u64 y1) (by rfl) (fun W (hW : Below _ _ W) => ?_) ?_
      · skip
        obtain ⟨y0, y1⟩ := Sn.c2 HR1.out hW
        go_simp
      try simp only [Act.put, List.setIfInBounds_toArray, List.set_cons_zero, List.set_cons_succ]
      refine qc_take (.pointer (some ⟨w.heap.size + 1, 1, none⟩)) (by rfl) (fun W (hW : Below _ _ W) => ?_) ?_
      · skip
        go_simp
      try simp only [Act.put, List.setIfInBounds_toArray, List.set_cons_zero, List.set_cons_succ]
      refine qc_take (.int .u64 y2) (by rfl) (fun W (hW : Below _ _ W) => ?_) ?_
      · skip
        obtain ⟨y0, y1⟩ := Sn.c2 HR1.out hW
        go_simp
      try simp only [Act.put, List.setIfInBounds_toArray, List.set_cons_zero, List.set_cons_succ]
      refine qc_take (.int .u64 x1) (by rfl) (fun W (hW : Below _ _ W) => ?_) ?_
      · skip
        go_simp
      try simp only [Act.put, List.setIfInBounds_toArray, List.set_cons_zero, List.set_cons_succ]
      refine qc_take (.int .u64 x2) (by rfl) (fun W (hW : Below _ _ W) => ?_) ?_
      · skip
        go_simp
      try simp only [Act.put, List.setIfInBounds_toArray, List.set_cons_zero, List.set_cons_succ]
      refine qc_take (.int .u64 y1) (by rfl) (fun W (hW : Below _ _ W) => ?_) ?_
      · skip
        go_simp
      try simp only [Act.put, List.setIfInBounds_toArray, List.set_cons_zero, List.set_cons_succ]
      refine qc_take (.int .u64 y2) (by rfl) (fun W (hW : Below _ _ W) => ?_) ?_
      · skip
        go_simp
      try simp only [Act.put, List.setIfInBounds_toArray, List.set_cons_zero, List.set_cons_succ]
      refine wpQuiet_nil ?_
      intro v2 hb
      have hr2 := Sn.bk_below HR2.out hb (Sn.bk_lt HR2.out)
      have hB := Sn.below_next HB.out hb HB.out.size
      clear HB HR2 hb
      have HB := Lib.hid hB
      have HR2 := Lib.hid hr2
      clear hB hr2
      clear HR0 HR1 v
      rename World => v
      go_wp2_with (first | (go_at_call 78; refine (rfits_is true (by omega) (by omega) (by omega) (by omega) (decide_eq_true g1) _).mono ?_; rintro e w9 ⟨rfl, rfl⟩) | (with_reducible refine Sn.store_sp (.tmp 8) (.tmp 122) (w.heap.size + 1 + 1) #[.int .u64 0, .int .u64 0] _ HR2.out rfl rfl rfl rfl rfl rfl (by simp [Value.oneCell']) ?_))
      refine Sn.ret_sp2 (w.heap.size + 1 + 1) _ _ (Sn.bk_row HR2.out _) rfl rfl rfl rfl rfl ⟨Sn.ret_t _ ?_ ?_, Sn.below_set HB.out (by omega) _⟩
      all_goals first | rfl | omega | (simp only [IntKind.wrap_u64]; omega)
    · rw [show Sn.sumR 10 a (x1, x2) (y1, y2) = ((0, 0), false) by unfold Sn.sumR; rw [if_neg (by omega), if_neg (by omega), if_neg (by omega), if_neg (by omega), if_neg (by omega), if_neg (fun h => g1 h.2)]]
      show Calls Try.prog 34 #[.int .i64 10, .int .u64 (Wd.msk a), .agg #[.int .u64 x1, .int .u64 x2], .agg #[.int .u64 y1, .int .u64 y2]] w _
      go_enter Try.func34, Try.ntmps34
      go_upto_region 1 with (fail)
      have hB : Below w.heap.size w (((w.alloc (.cells #[.int .u64 x1, .int .u64 x2] 24)).alloc (.cells #[.int .u64 y1, .int .u64 y2] 24)).alloc (.cells #[.int .u64 0, .int .u64 0] 24)) := ((((Below.refl _ _).alloc (Nat.le_refl _) _).alloc (by simp) _).alloc (by simp; omega) _)
      have hr0 : Sn.Bk (((w.alloc (.cells #[.int .u64 x1, .int .u64 x2] 24)).alloc (.cells #[.int .u64 y1, .int .u64 y2] 24)).alloc (.cells #[.int .u64 0, .int .u64 0] 24)) (w.heap.size) 24 #[.int .u64 x1, .int .u64 x2] := Sn.bk_old (Sn.bk_old (Sn.bk_new _ _ _) _) _
      have hr1 : Sn.Bk (((w.alloc (.cells #[.int .u64 x1, .int .u64 x2] 24)).alloc (.cells #[.int .u64 y1, .int .u64 y2] 24)).alloc (.cells #[.int .u64 0, .int .u64 0] 24)) (w.heap.size + 1) 24 #[.int .u64 y1, .int .u64 y2] := Sn.bk_old (Sn.bk_at (by simp)) _
      have hr2 : Sn.Bk (((w.alloc (.cells #[.int .u64 x1, .int .u64 x2] 24)).alloc (.cells #[.int .u64 y1, .int .u64 y2] 24)).alloc (.cells #[.int .u64 0, .int .u64 0] 24)) (w.heap.size + 1 + 1) 24 #[.int .u64 0, .int .u64 0] := Sn.bk_at (by simp)
      generalize (((w.alloc (.cells #[.int .u64 x1, .int .u64 x2] 24)).alloc (.cells #[.int .u64 y1, .int .u64 y2] 24)).alloc (.cells #[.int .u64 0, .int .u64 0] 24)) = v at *
      have HB := Lib.hid hB
      have HR0 := Lib.hid hr0
      have HR1 := Lib.hid hr1
      have HR2 := Lib.hid hr2
      clear hB hr0 hr1 hr2
      refine qc_all (fun W => Below v.heap.size v W) (by kernel_rfl) (by kernel_rfl) (Below.refl _ _).drew ?_
      refine qc_take (.pointer (some ⟨w.heap.size, 0, none⟩)) (by rfl) (fun W (hW : Below _ _ W) => ?_) ?_
      · skip
        go_simp
      try simp only [Act.put, List.setIfInBounds_toArray, List.set_cons_zero, List.set_cons_succ]
      refine qc_take (.int .u64 x1) (by rfl) (fun W (hW : Below _ _ W) => ?_) ?_
      · skip
        obtain ⟨y0, y1⟩ := Sn.c2 HR0.out hW
        go_simp
      try simp only [Act.put, List.setIfInBounds_toArray, List.set_cons_zero, List.set_cons_succ]
      refine qc_take (.pointer (some ⟨w.heap.size, 1, none⟩)) (by rfl) (fun W (hW : Below _ _ W) => ?_) ?_
      · skip
        go_simp
      try simp only [Act.put, List.setIfInBounds_toArray, List.set_cons_zero, List.set_cons_succ]
      refine qc_take (.int .u64 x2) (by rfl) (fun W (hW : Below _ _ W) => ?_) ?_
      · skip
        obtain ⟨y0, y1⟩ := Sn.c2 HR0.out hW
        go_simp
      try simp only [Act.put, List.setIfInBounds_toArray, List.set_cons_zero, List.set_cons_succ]
      refine qc_take (.pointer (some ⟨w.heap.size + 1, 0, none⟩)) (by rfl) (fun W (hW : Below _ _ W) => ?_) ?_
      · skip
        go_simp
      try simp only [Act.put, List.setIfInBounds_toArray, List.set_cons_zero, List.set_cons_succ]
      refine qc_take (.int .u64 y1) (by rfl) (fun W (hW : Below _ _ W) => ?_) ?_
      · skip
        obtain ⟨y0, y1⟩ := Sn.c2 HR1.out hW
        go_simp
      try simp only [Act.put, List.setIfInBounds_toArray, List.set_cons_zero, List.set_cons_succ]
      refine qc_take (.pointer (some ⟨w.heap.size + 1, 1, none⟩)) (by rfl) (fun W (hW : Below _ _ W) => ?_) ?_
      · skip
        go_simp
      try simp only [Act.put, List.setIfInBounds_toArray, List.set_cons_zero, List.set_cons_succ]
      refine qc_take (.int .u64 y2) (by rfl) (fun W (hW : Below _ _ W) => ?_) ?_
      · skip
        obtain ⟨y0, y1⟩ := Sn.c2 HR1.out hW
        go_simp
      try simp only [Act.put, List.setIfInBounds_toArray, List.set_cons_zero, List.set_cons_succ]
      refine qc_take (.int .u64 x1) (by rfl) (fun W (hW : Below _ _ W) => ?_) ?_
      · skip
        go_simp
      try simp only [Act.put, List.setIfInBounds_toArray, List.set_cons_zero, List.set_cons_succ]
      refine qc_take (.int .u64 x2) (by rfl) (fun W (hW : Below _ _ W) => ?_) ?_
      · skip
        go_simp
      try simp only [Act.put, List.setIfInBounds_toArray, List.set_cons_zero, List.set_cons_succ]
      refine qc_take (.int .u64 y1) (by rfl) (fun W (hW : Below _ _ W) => ?_) ?_
      · skip
        go_simp
      try simp only [Act.put, List.setIfInBounds_toArray, List.set_cons_zero, List.set_cons_succ]
      refine qc_take (.int .u64 y2) (by rfl) (fun W (hW : Below _ _ W) => ?_) ?_
      · skip
        go_simp
      try simp only [Act.put, List.setIfInBounds_toArray, List.set_cons_zero, List.set_cons_succ]
      refine wpQuiet_nil ?_
      intro v2 hb
      have hr2 := Sn.bk_below HR2.out hb (Sn.bk_lt HR2.out)
      have hB := Sn.below_next HB.out hb HB.out.size
      clear HB HR2 hb
      have HB := Lib.hid hB
      have HR2 := Lib.hid hr2
      clear hB hr2
      clear HR0 HR1 v
      rename World => v
      go_wp2_with (first | (go_at_call 78; refine (rfits_is false (by omega) (by omega) (by omega) (by omega) (decide_eq_false g1) _).mono ?_; rintro e w9 ⟨rfl, rfl⟩) | (with_reducible refine Sn.store_sp (.tmp 8) (.tmp 123) (w.heap.size + 1 + 1) #[.int .u64 0, .int .u64 0] _ HR2.out rfl rfl rfl rfl rfl rfl (by simp [Value.oneCell']) ?_))
      refine Sn.ret_sp2 (w.heap.size + 1 + 1) _ _ (Sn.bk_row HR2.out _) rfl rfl rfl rfl rfl ⟨Sn.ret_t _ ?_ ?_, Sn.below_set HB.out (by omega) _⟩
      all_goals first | rfl | omega | (simp only [IntKind.wrap_u64]; omega)
  have b10 : (op == 10) = false := by simpa using h10
  rw [show Sn.sumR op a (x1, x2) (y1, y2) = ((0, 0), false) by unfold Sn.sumR; rw [if_neg (by omega), if_neg (by omega), if_neg (by omega), if_neg (by omega), if_neg (by omega), if_neg (by omega)]]
  show Calls Try.prog 34 #[.int .i64 op, .int .u64 (Wd.msk a), .agg #[.int .u64 x1, .int .u64 x2], .agg #[.int .u64 y1, .int .u64 y2]] w _
  go_enter Try.func34, Try.ntmps34
  go_upto_region 1 with (fail)
  have hB : Below w.heap.size w (((w.alloc (.cells #[.int .u64 x1, .int .u64 x2] 24)).alloc (.cells #[.int .u64 y1, .int .u64 y2] 24)).alloc (.cells #[.int .u64 0, .int .u64 0] 24)) := ((((Below.refl _ _).alloc (Nat.le_refl _) _).alloc (by simp) _).alloc (by simp; omega) _)
  have hr0 : Sn.Bk (((w.alloc (.cells #[.int .u64 x1, .int .u64 x2] 24)).alloc (.cells #[.int .u64 y1, .int .u64 y2] 24)).alloc (.cells #[.int .u64 0, .int .u64 0] 24)) (w.heap.size) 24 #[.int .u64 x1, .int .u64 x2] := Sn.bk_old (Sn.bk_old (Sn.bk_new _ _ _) _) _
  have hr1 : Sn.Bk (((w.alloc (.cells #[.int .u64 x1, .int .u64 x2] 24)).alloc (.cells #[.int .u64 y1, .int .u64 y2] 24)).alloc (.cells #[.int .u64 0, .int .u64 0] 24)) (w.heap.size + 1) 24 #[.int .u64 y1, .int .u64 y2] := Sn.bk_old (Sn.bk_at (by simp)) _
  have hr2 : Sn.Bk (((w.alloc (.cells #[.int .u64 x1, .int .u64 x2] 24)).alloc (.cells #[.int .u64 y1, .int .u64 y2] 24)).alloc (.cells #[.int .u64 0, .int .u64 0] 24)) (w.heap.size + 1 + 1) 24 #[.int .u64 0, .int .u64 0] := Sn.bk_at (by simp)
  generalize (((w.alloc (.cells #[.int .u64 x1, .int .u64 x2] 24)).alloc (.cells #[.int .u64 y1, .int .u64 y2] 24)).alloc (.cells #[.int .u64 0, .int .u64 0] 24)) = v at *
  have HB := Lib.hid hB
  have HR0 := Lib.hid hr0
  have HR1 := Lib.hid hr1
  have HR2 := Lib.hid hr2
  clear hB hr0 hr1 hr2
  refine qc_all (fun W => Below v.heap.size v W) (by kernel_rfl) (by kernel_rfl) (Below.refl _ _).drew ?_
  refine qc_take (.pointer (some ⟨w.heap.size, 0, none⟩)) (by rfl) (fun W (hW : Below _ _ W) => ?_) ?_
  · skip
    go_simp
  try simp only [Act.put, List.setIfInBounds_toArray, List.set_cons_zero, List.set_cons_succ]
  refine qc_take (.int .u64 x1) (by rfl) (fun W (hW : Below _ _ W) => ?_) ?_
  · skip
    obtain ⟨y0, y1⟩ := Sn.c2 HR0.out hW
    go_simp
  try simp only [Act.put, List.setIfInBounds_toArray, List.set_cons_zero, List.set_cons_succ]
  refine qc_take (.pointer (some ⟨w.heap.size, 1, none⟩)) (by rfl) (fun W (hW : Below _ _ W) => ?_) ?_
  · skip
    go_simp
  try simp only [Act.put, List.setIfInBounds_toArray, List.set_cons_zero, List.set_cons_succ]
  refine qc_take (.int .u64 x2) (by rfl) (fun W (hW : Below _ _ W) => ?_) ?_
  · skip
    obtain ⟨y0, y1⟩ := Sn.c2 HR0.out hW
    go_simp
  try simp only [Act.put, List.setIfInBounds_toArray, List.set_cons_zero, List.set_cons_succ]
  refine qc_take (.pointer (some ⟨w.heap.size + 1, 0, none⟩)) (by rfl) (fun W (hW : Below _ _ W) => ?_) ?_
  · skip
    go_simp
  try simp only [Act.put, List.setIfInBounds_toArray, List.set_cons_zero, List.set_cons_succ]
  refine qc_take (.int .u64 y1) (by rfl) (fun W (hW : Below _ _ W) => ?_) ?_
  · skip
    obtain ⟨y0, y1⟩ := Sn.c2 HR1.out hW
    go_simp
  try simp only [Act.put, List.setIfInBounds_toArray, List.set_cons_zero, List.set_cons_succ]
  refine qc_take (.pointer (some ⟨w.heap.size + 1, 1, none⟩)) (by rfl) (fun W (hW : Below _ _ W) => ?_) ?_
  · skip
    go_simp
  try simp only [Act.put, List.setIfInBounds_toArray, List.set_cons_zero, List.set_cons_succ]
  refine qc_take (.int .u64 y2) (by rfl) (fun W (hW : Below _ _ W) => ?_) ?_
  · skip
    obtain ⟨y0, y1⟩ := Sn.c2 HR1.out hW
    go_simp
  try simp only [Act.put, List.setIfInBounds_toArray, List.set_cons_zero, List.set_cons_succ]
  refine qc_take (.int .u64 x1) (by rfl) (fun W (hW : Below _ _ W) => ?_) ?_
  · skip
    go_simp
  try simp only [Act.put, List.setIfInBounds_toArray, List.set_cons_zero, List.set_cons_succ]
  refine qc_take (.int .u64 x2) (by rfl) (fun W (hW : Below _ _ W) => ?_) ?_
  · skip
    go_simp
  try simp only [Act.put, List.setIfInBounds_toArray, List.set_cons_zero, List.set_cons_succ]
  refine qc_take (.int .u64 y1) (by rfl) (fun W (hW : Below _ _ W) => ?_) ?_
  · skip
    go_simp
  try simp only [Act.put, List.setIfInBounds_toArray, List.set_cons_zero, List.set_cons_succ]
  refine qc_take (.int .u64 y2) (by rfl) (fun W (hW : Below _ _ W) => ?_) ?_
  · skip
    go_simp
  try simp only [Act.put, List.setIfInBounds_toArray, List.set_cons_zero, List.set_cons_succ]
  refine wpQuiet_nil ?_
  intro v2 hb
  have hr2 := Sn.bk_below HR2.out hb (Sn.bk_lt HR2.out)
  have hB := Sn.below_next HB.out hb HB.out.size
  clear HB HR2 hb
  have HB := Lib.hid hB
  have HR2 := Lib.hid hr2
  clear hB hr2
  clear HR0 HR1 v
  rename World => v
  go_wp2_with (first | (with_reducible refine Sn.store_sp (.tmp 8) (.tmp 123) (w.heap.size + 1 + 1) #[.int .u64 0, .int .u64 0] _ HR2.out rfl rfl rfl rfl rfl rfl (by simp [Value.oneCell']) ?_))
  refine Sn.ret_sp2 (w.heap.size + 1 + 1) _ _ (Sn.bk_row HR2.out _) rfl rfl rfl rfl rfl ⟨Sn.ret_t _ ?_ ?_, Sn.below_set HB.out (by omega) _⟩
  all_goals first | rfl | omega | (simp only [IntKind.wrap_u64]; omega)


end Go.Proofs.Ytbjckcjfambpoaa
