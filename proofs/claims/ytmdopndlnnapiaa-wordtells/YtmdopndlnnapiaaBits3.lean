/-
  Plain arithmetic: the reference's answers are the words' own.
-/
import Derived.Test.YtmdopndlnnapiaaBits2
namespace Go.Proofs.Ytmdopndlnnapiaa
namespace Wb
variable (a : Int) (x y : Nat)

theorem vX : val (ofB (Wd.wid a) x) (Wd.wid a) = x % 2 ^ Wd.wid a := val_ofB _ _
theorem vX64 : val (ofB (Wd.wid a) x) 64 = x % 2 ^ Wd.wid a := by rw [val_sup64 (ofB_sup _ _) (Wd.wid_hi a), vX]
theorem cX : Wd.cut a (x : Int) = ((x % 2 ^ Wd.wid a : Nat) : Int) := Wd.cut_nat a x
theorem lX : x % 2 ^ Wd.wid a < 2 ^ Wd.wid a := Nat.mod_lt _ (Nat.two_pow_pos _)
theorem mN : Wd.msk a = ((2 ^ Wd.wid a - 1 : Nat) : Int) := by
  unfold Wd.msk; rw [Wd.pw_nat]; have := Nat.two_pow_pos (Wd.wid a); omega

theorem j_mask : ((val (notB (Wd.wid a) off) 64 : Nat) : Int) = Wd.msk a := by
  rw [val_sup64 (notB_sup _ _) (Wd.wid_hi a), val_notB, val_off, mN, Nat.sub_zero]
theorem j_cut : ((val (ofB (Wd.wid a) x) 64 : Nat) : Int) = Wd.cut a x := by rw [vX64, cX]
theorem j_not : ((val (notB (Wd.wid a) (ofB (Wd.wid a) x)) 64 : Nat) : Int) = Wd.app 5 a x y := by
  rw [val_sup64 (notB_sup _ _) (Wd.wid_hi a), val_notB, vX, Wd.app5, mN, cX]
  have := lX a x; omega
theorem j_add : ((val (addB (Wd.wid a) (ofB (Wd.wid a) x) (ofB (Wd.wid a) y) false) 64 : Nat) : Int) = Wd.app 8 a x y := by
  rw [val_sup64 (addB_sup _ _ _ _) (Wd.wid_hi a), val_addB, vX, vX, Wd.app8]
  simp only [Bool.false_eq_true, if_false, Nat.add_zero]
  rw [← Nat.add_mod, show (x : Int) + (y : Int) = ((x + y : Nat) : Int) from by omega, Wd.cut_nat]
theorem j_sub : ((val (addB (Wd.wid a) (ofB (Wd.wid a) x) (notB (Wd.wid a) (ofB (Wd.wid a) y)) true) 64 : Nat) : Int) = Wd.app 9 a x y := by
  rw [val_sup64 (addB_sup _ _ _ _) (Wd.wid_hi a), val_addB, val_notB, vX, vX, Wd.app9, ← Wd.cut_sub_l, ← Wd.cut_sub_r, cX, cX]
  simp only [if_true]
  have h1 := lX a x
  have h2 := lX a y
  generalize x % 2 ^ Wd.wid a = X at *
  generalize y % 2 ^ Wd.wid a = Y at *
  rw [show X + (2 ^ Wd.wid a - 1 - Y) + 1 = X + 2 ^ Wd.wid a - Y from by omega]
  have e : ((X : Int) - Y) = ((X + 2 ^ Wd.wid a - Y : Nat) : Int) + Wd.pw (Wd.wid a) * (-1) := by rw [Wd.pw_nat]; omega
  rw [e]
  unfold Wd.cut
  rw [Int.add_mul_emod_self_left, Wd.pw_nat]
  exact Int.natCast_emod _ _
theorem j_mul : ((val (mulO (Wd.wid a) (ofB (Wd.wid a) x) (ofB (Wd.wid a) y) (Wd.wid a)) 64 : Nat) : Int) = Wd.app 10 a x y := by
  rw [val_sup64 (mulO_sup _ _ _ _) (Wd.wid_hi a), val_mulO _ _ _ (Wd.wid_lo a), vX, vX, Wd.app10, ← Nat.mul_mod, ← Int.natCast_mul, Wd.cut_nat]
theorem qr_zero (h : y % 2 ^ Wd.wid a = 0) : qr (Wd.wid a) (ofB (Wd.wid a) x) (ofB (Wd.wid a) y) = (notB (Wd.wid a) off, ofB (Wd.wid a) x) := if_pos (by rw [vX64]; exact h)
theorem qr_pos (h : ¬ y % 2 ^ Wd.wid a = 0) : qr (Wd.wid a) (ofB (Wd.wid a) x) (ofB (Wd.wid a) y) = dv (Wd.wid a) (ofB (Wd.wid a) x) (ofB (Wd.wid a) y) (Wd.wid a) := if_neg (by rw [vX64]; exact h)
theorem j_div : ((val (qr (Wd.wid a) (ofB (Wd.wid a) x) (ofB (Wd.wid a) y)).1 64 : Nat) : Int) = Wd.app 11 a x y := by
  rw [Wd.app11, cX, cX]
  by_cases h : y % 2 ^ Wd.wid a = 0
  · rw [qr_zero a x y h, if_pos (by omega)]; exact j_mask a
  · rw [qr_pos a x y h, if_neg (by omega)]
    have hd := dv_ok (Wd.wid a) (ofB (Wd.wid a) x) (ofB (Wd.wid a) y) (Wd.wid_lo a) (by rw [vX]; omega) (Wd.wid a) (Nat.le_refl _)
    rw [val_sup64 hd.supq (Wd.wid_hi a), hd.quot, Nat.sub_self, Nat.pow_zero, Nat.mul_one, Nat.div_one, vX, vX]
    exact Int.natCast_ediv _ _
theorem j_rem : ((val (qr (Wd.wid a) (ofB (Wd.wid a) x) (ofB (Wd.wid a) y)).2 64 : Nat) : Int) = Wd.app 12 a x y := by
  rw [Wd.app12, cX, cX]
  by_cases h : y % 2 ^ Wd.wid a = 0
  · rw [qr_zero a x y h, if_pos (by omega), vX64]
  · rw [qr_pos a x y h, if_neg (by omega)]
    have hd := dv_ok (Wd.wid a) (ofB (Wd.wid a) x) (ofB (Wd.wid a) y) (Wd.wid_lo a) (by rw [vX]; omega) (Wd.wid a) (Nat.le_refl _)
    rw [val_sup64 hd.supr (Wd.wid_hi a), hd.rest, Nat.sub_self, Nat.pow_zero, Nat.div_one, vX, vX]
    exact Int.natCast_emod _ _
theorem val_bits (n : Nat) (o : Bool → Bool → Bool) (f g : Nat → Bool) (z : Nat) (h : ∀ i, z.testBit i = (decide (i < n) && o (f i) (g i))) : val (bitB n o f g) n = z := by
  apply Nat.eq_of_testBit_eq
  intro i
  rw [val_bit, h]
  by_cases e : i < n <;> simp [bitB, e]
theorem j_and : ((val (bitB (Wd.wid a) and (ofB (Wd.wid a) x) (ofB (Wd.wid a) y)) 64 : Nat) : Int) = Wd.app 13 a x y := by
  rw [val_sup64 (bitB_sup _ _ _ _) (Wd.wid_hi a)]
  show _ = (((Wd.cut a x).toNat &&& (Wd.cut a y).toNat : Nat) : Int)
  rw [cX, cX, Int.toNat_natCast, Int.toNat_natCast, ← vX, ← vX]
  congr 1
  refine val_bits _ _ _ _ _ (fun i => ?_)
  rw [Nat.testBit_and, val_bit, val_bit]
  by_cases e : i < Wd.wid a <;> simp [e]
theorem j_or : ((val (bitB (Wd.wid a) or (ofB (Wd.wid a) x) (ofB (Wd.wid a) y)) 64 : Nat) : Int) = Wd.app 14 a x y := by
  rw [val_sup64 (bitB_sup _ _ _ _) (Wd.wid_hi a)]
  show _ = (((Wd.cut a x).toNat ||| (Wd.cut a y).toNat : Nat) : Int)
  rw [cX, cX, Int.toNat_natCast, Int.toNat_natCast, ← vX, ← vX]
  congr 1
  refine val_bits _ _ _ _ _ (fun i => ?_)
  rw [Nat.testBit_or, val_bit, val_bit]
  by_cases e : i < Wd.wid a <;> simp [e]
theorem j_xor : ((val (bitB (Wd.wid a) bne (ofB (Wd.wid a) x) (ofB (Wd.wid a) y)) 64 : Nat) : Int) = Wd.app 15 a x y := by
  rw [val_sup64 (bitB_sup _ _ _ _) (Wd.wid_hi a)]
  show _ = (((Wd.cut a x).toNat ^^^ (Wd.cut a y).toNat : Nat) : Int)
  rw [cX, cX, Int.toNat_natCast, Int.toNat_natCast, ← vX, ← vX]
  congr 1
  refine val_bits _ _ _ _ _ (fun i => ?_)
  rw [Nat.testBit_xor, val_bit, val_bit]
  by_cases e : i < Wd.wid a <;> simp [e]
theorem shY : Wd.sh (Wd.cut a y) = min (y % 2 ^ Wd.wid a) 64 := by rw [cX]; unfold Wd.sh; rw [Int.toNat_natCast]
theorem j_shl : ((val (movU (Wd.wid a) (ofB (Wd.wid a) x) (min (Wd.wid a) (val (ofB (Wd.wid a) y) 64))) 64 : Nat) : Int) = Wd.app 16 a x y := by
  rw [val_sup64 (movU_sup _ _ (Wd.wid_lo a) (ofB_sup _ _) _) (Wd.wid_hi a), val_movU _ _ (Wd.wid_lo a), vX, vX64, Wd.app16, shY, cX, Wd.pw_nat, ← Int.natCast_mul, Wd.cut_nat]
  congr 1
  have hw := Wd.wid_hi a
  by_cases h : y % 2 ^ Wd.wid a ≤ Wd.wid a
  · rw [Nat.min_eq_right h, Nat.min_eq_left (by omega)]
  · rw [Nat.min_eq_left (by omega), Nat.mul_mod_left]
    have e : min (y % 2 ^ Wd.wid a) 64 = Wd.wid a + (min (y % 2 ^ Wd.wid a) 64 - Wd.wid a) := by omega
    rw [e, Nat.pow_add, ← Nat.mul_assoc, Nat.mul_comm (x % 2 ^ Wd.wid a), Nat.mul_assoc, Nat.mul_mod_right]
theorem j_shr : ((val (movD (Wd.wid a) (ofB (Wd.wid a) x) false (min (Wd.wid a) (val (ofB (Wd.wid a) y) 64))) 64 : Nat) : Int) = Wd.app 17 a x y := by
  rw [val_sup64 (movD_sup _ _ _ (ofB_sup _ _) _) (Wd.wid_hi a), val_movD _ _ _ (Wd.wid_lo a), vX, vX64, Wd.app17, shY, cX, Wd.pw_nat]
  simp only [Bool.false_eq_true, if_false, Int.sub_zero, Int.add_zero]
  have hw := Wd.wid_hi a
  have hx := lX a x
  by_cases h : y % 2 ^ Wd.wid a ≤ Wd.wid a
  · rw [Nat.min_eq_right h, Nat.min_eq_left (by omega)]
  · rw [Nat.min_eq_left (by omega)]
    have h2 : 2 ^ Wd.wid a ≤ 2 ^ min (y % 2 ^ Wd.wid a) 64 := Nat.pow_le_pow_right (by decide) (by omega)
    rw [Int.ediv_eq_zero_of_lt (by omega) (by omega), Int.ediv_eq_zero_of_lt (by omega) (by omega)]
theorem topX : ofB (Wd.wid a) x (Wd.wid a - 1) = decide (Wd.hib a ≤ Wd.cut a x) := by
  rw [top_bit (ofB (Wd.wid a) x) (Wd.wid a) (Wd.wid_lo a), vX, cX]
  have e : Wd.hib a = ((2 ^ (Wd.wid a - 1) : Nat) : Int) := by unfold Wd.hib; rw [Wd.pw_nat]
  rw [e]
  congr 1; rw [eq_iff_iff]; omega
theorem sgnX : Wd.sgn a x = ((x % 2 ^ Wd.wid a : Nat) : Int) - (if ofB (Wd.wid a) x (Wd.wid a - 1) then ((2 ^ Wd.wid a : Nat) : Int) else 0) := by
  rw [topX]
  unfold Wd.sgn
  rw [Wd.pw_nat, ← cX]
  by_cases h : Wd.cut a x < Wd.hib a
  · rw [if_pos h, if_neg (by simp; omega)]; omega
  · rw [if_neg h, if_pos (by simp; omega)]
theorem j_sign : sg (Wd.wid a) (ofB (Wd.wid a) x) (Wd.wid a) = Wd.sgn a x := by
  have h := sg_val (Wd.wid a) (ofB (Wd.wid a) x) (Wd.wid a) (Nat.le_refl _)
  rw [Nat.sub_self, Nat.pow_zero, val, vX] at h
  rw [sgnX, ← h]; omega
theorem j_sar : ((val (movD (Wd.wid a) (ofB (Wd.wid a) x) (ofB (Wd.wid a) x (Wd.wid a - 1)) (min (Wd.wid a) (val (ofB (Wd.wid a) y) 64))) 64 : Nat) : Int) = Wd.app 18 a x y := by
  rw [val_sup64 (movD_sup _ _ _ (ofB_sup _ _) _) (Wd.wid_hi a), Wd.app18, shY, vX64]
  have hv := val_movD (Wd.wid a) (ofB (Wd.wid a) x) (ofB (Wd.wid a) x (Wd.wid a - 1)) (Wd.wid_lo a) (min (Wd.wid a) (y % 2 ^ Wd.wid a))
  rw [vX, ← sgnX] at hv
  have hlt := val_lt (movD (Wd.wid a) (ofB (Wd.wid a) x) (ofB (Wd.wid a) x (Wd.wid a - 1)) (min (Wd.wid a) (y % 2 ^ Wd.wid a))) (Wd.wid a)
  have s0 := Wd.sgn_lo a x
  have s1 := Wd.sgn_lt a x
  have hp := Wd.pw_hib a
  have hw := Wd.wid_hi a
  have hdiv : Wd.sgn a x / ((2 ^ min (Wd.wid a) (y % 2 ^ Wd.wid a) : Nat) : Int) = Wd.sgn a x / Wd.pw (min (y % 2 ^ Wd.wid a) 64) := by
    rw [Wd.pw_nat]
    by_cases h : y % 2 ^ Wd.wid a ≤ Wd.wid a
    · rw [Nat.min_eq_right h, Nat.min_eq_left (by omega)]
    · rw [Nat.min_eq_left (by omega)]
      have far : ∀ d : Nat, 2 ^ Wd.wid a ≤ d → Wd.sgn a x / (d : Int) = if Wd.sgn a x < 0 then -1 else 0 := by
        intro d hd
        rw [Wd.pw_nat] at hp
        split
        · rw [show Wd.sgn a x = (Wd.sgn a x + d) + (-1) * (d : Int) from by omega, Int.add_mul_ediv_right _ _ (by omega), Int.ediv_eq_zero_of_lt (by omega) (by omega)]; rfl
        · exact Int.ediv_eq_zero_of_lt (by omega) (by omega)
      rw [far _ (Nat.le_refl _), far _ (Nat.pow_le_pow_right (by decide) (by omega))]
  rw [← hdiv]
  clear hdiv
  generalize Wd.sgn a x / ((2 ^ min (Wd.wid a) (y % 2 ^ Wd.wid a) : Nat) : Int) = t at *
  generalize val (movD (Wd.wid a) (ofB (Wd.wid a) x) (ofB (Wd.wid a) x (Wd.wid a - 1)) (min (Wd.wid a) (y % 2 ^ Wd.wid a))) (Wd.wid a) = v at *
  unfold Wd.cut
  rw [Wd.pw_nat]
  by_cases hb : ofB (Wd.wid a) x (Wd.wid a - 1) = true
  · rw [if_pos hb] at hv
    rw [show t = (v : Int) + ((2 ^ Wd.wid a : Nat) : Int) * (-1) from by omega, Int.add_mul_emod_self_left, Int.emod_eq_of_lt (by omega) (by omega)]
  · rw [if_neg hb] at hv
    rw [show t = (v : Int) from by omega, Int.emod_eq_of_lt (by omega) (by omega)]
theorem j_eq (b : Bool) (h : ((List.range 64).all fun i => ofB (Wd.wid a) x i == ofB (Wd.wid a) y i) = b) : ((val (upd off 0 b) 64 : Nat) : Int) = Wd.app 19 a x y := by
  rw [val_truth, Wd.app19, cX, cX, ← vX64, ← vX64]
  have key : b = true ↔ val (ofB (Wd.wid a) x) 64 = val (ofB (Wd.wid a) y) 64 := by
    rw [← h]
    simp only [List.all_eq_true, List.mem_range, beq_iff_eq]
    exact ⟨fun q => val_congr 64 q, fun q => val_inj 64 q⟩
  unfold Wd.eqv
  by_cases e : val (ofB (Wd.wid a) x) 64 = val (ofB (Wd.wid a) y) 64
  · rw [if_pos (key.2 e), if_pos (by omega)]; rfl
  · rw [if_neg (fun q => e (key.1 q)), if_neg (by omega)]; rfl
theorem j_less (b : Bool) (h : decide (val (ofB (Wd.wid a) x) (Wd.wid a) < val (ofB (Wd.wid a) y) (Wd.wid a)) = b) : ((val (upd off 0 b) 64 : Nat) : Int) = Wd.app 20 a x y := by
  rw [val_truth, Wd.app20, cX, cX, ← h, vX, vX]
  unfold Wd.ltv
  by_cases e : x % 2 ^ Wd.wid a < y % 2 ^ Wd.wid a
  · rw [if_pos (by simpa using e), if_pos (by omega)]; rfl
  · rw [if_neg (by simpa using e), if_neg (by omega)]; rfl
theorem j_below1 (h : (ofB (Wd.wid a) x (Wd.wid a - 1) == ofB (Wd.wid a) y (Wd.wid a - 1)) = false) : ((val (upd off 0 (ofB (Wd.wid a) x (Wd.wid a - 1))) 64 : Nat) : Int) = Wd.app 21 a x y := by
  rw [val_truth, Wd.app21]
  have h' : ofB (Wd.wid a) x (Wd.wid a - 1) ≠ ofB (Wd.wid a) y (Wd.wid a - 1) := by simpa using h
  rw [topX, topX] at h'
  rw [topX]
  have hp := Wd.pw_hib a
  have x0 := Wd.cut_lo a x
  have x1 := Wd.cut_lt a x
  have y0 := Wd.cut_lo a y
  have y1 := Wd.cut_lt a y
  unfold Wd.ltv
  by_cases e : Wd.hib a ≤ Wd.cut a x
  · have e2 : ¬ Wd.hib a ≤ Wd.cut a y := fun q => h' (by simp [e, q])
    have ex : Wd.sgn a x = Wd.cut a x - Wd.pw (Wd.wid a) := by unfold Wd.sgn; rw [if_neg (by omega)]
    have ey : Wd.sgn a y = Wd.cut a y := by unfold Wd.sgn; rw [if_pos (by omega)]
    rw [ex, ey, if_pos (by simpa using e), if_pos (by omega)]; rfl
  · have e2 : Wd.hib a ≤ Wd.cut a y := by
      apply Classical.byContradiction
      intro q; exact h' (by simp [e, q])
    have ex : Wd.sgn a x = Wd.cut a x := by unfold Wd.sgn; rw [if_pos (by omega)]
    have ey : Wd.sgn a y = Wd.cut a y - Wd.pw (Wd.wid a) := by unfold Wd.sgn; rw [if_neg (by omega)]
    rw [ex, ey, if_neg (by simpa using e), if_neg (by omega)]; rfl
theorem j_below2 (b : Bool) (hb : decide (val (ofB (Wd.wid a) x) (Wd.wid a) < val (ofB (Wd.wid a) y) (Wd.wid a)) = b) (h : (ofB (Wd.wid a) x (Wd.wid a - 1) == ofB (Wd.wid a) y (Wd.wid a - 1)) = true) : ((val (upd off 0 b) 64 : Nat) : Int) = Wd.app 21 a x y := by
  rw [j_less a x y b hb, Wd.app20, Wd.app21]
  have h' : ofB (Wd.wid a) x (Wd.wid a - 1) = ofB (Wd.wid a) y (Wd.wid a - 1) := by simpa using h
  rw [topX, topX] at h'
  unfold Wd.ltv Wd.sgn
  by_cases e : Wd.hib a ≤ Wd.cut a x
  · have e2 : Wd.hib a ≤ Wd.cut a y := by rw [show decide (Wd.hib a ≤ Wd.cut a x) = true from by simpa using e] at h'; exact of_decide_eq_true h'.symm
    rw [if_neg (show ¬ Wd.cut a x < Wd.hib a by omega), if_neg (show ¬ Wd.cut a y < Wd.hib a by omega)]
    split <;> split <;> omega
  · have e2 : ¬ Wd.hib a ≤ Wd.cut a y := by rw [show decide (Wd.hib a ≤ Wd.cut a x) = false from by simpa using e] at h'; exact of_decide_eq_false h'.symm
    rw [if_pos (show Wd.cut a x < Wd.hib a by omega), if_pos (show Wd.cut a y < Wd.hib a by omega)]
end Wb
end Go.Proofs.Ytmdopndlnnapiaa
