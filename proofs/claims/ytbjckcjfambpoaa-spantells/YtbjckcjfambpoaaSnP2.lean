/-
  Layer 11, plain: the table in the forms in which the program reckons it.
-/
import Derived.Test.YtbjckcjfambpoaaSnPl
namespace Go.Proofs.Ytbjckcjfambpoaa.Sn
set_option linter.unusedSimpArgs false
set_option linter.unusedVariables false
set_option maxRecDepth 100000
open Wd

theorem add_un {a x1 x2 y1 y2 : Int} (hx : Ok a (x1, x2)) (hy : Ok a (y1, y2)) (h : ¬ y2 > msk a - x2) : tab 8 a (x1, x2) (y1, y2) = (cut a (x1 + y1), cut a (x2 + y2)) := by
  unfold Ok at hx hy; dsimp only at hx hy
  show addT a _ _ = _
  unfold addT; dsimp only
  rw [if_pos (by omega), cut_w a _ (by omega) (by omega), cut_w a _ (by omega) (by omega)]
theorem cut_over (a s : Int) (h0 : msk a < s) (h1 : s ≤ 2 * msk a) : cut a s = s - (msk a + 1) := by
  have e : cut a s = cut a (s - pw (wid a)) := by unfold cut; rw [Int.sub_emod_right]
  have hm : msk a = pw (wid a) - 1 := rfl
  rw [e, cut_w a _ (by omega) (by omega)]; omega
theorem cut_under (a s : Int) (h0 : s < 0) (h1 : - msk a ≤ s) : cut a s = s + (msk a + 1) := by
  have e : cut a s = cut a (s + pw (wid a)) := by unfold cut; rw [Int.add_emod_right]
  have hm : msk a = pw (wid a) - 1 := rfl
  rw [e, cut_w a _ (by omega) (by omega)]; omega
theorem add_cut {a x1 x2 y1 y2 : Int} (hx : Ok a (x1, x2)) (hy : Ok a (y1, y2)) (h : y1 > msk a - x1) : tab 8 a (x1, x2) (y1, y2) = (cut a (x1 + y1), cut a (x2 + y2)) := by
  unfold Ok at hx hy; dsimp only at hx hy
  show addT a _ _ = _
  unfold addT; dsimp only
  rw [if_neg (by omega), if_pos (by omega), cut_over a _ (by omega) (by omega), cut_over a _ (by omega) (by omega)]
theorem add_no {a x1 x2 y1 y2 : Int} (h1 : ¬ y1 > msk a - x1) (h2 : y2 > msk a - x2) : tab 8 a (x1, x2) (y1, y2) = whole a := by
  show addT a _ _ = _
  unfold addT; dsimp only
  rw [if_neg (by omega), if_neg (by omega)]
theorem sub_un {a x1 x2 y1 y2 : Int} (hx : Ok a (x1, x2)) (hy : Ok a (y1, y2)) (h : ¬ y2 > x1) : tab 9 a (x1, x2) (y1, y2) = (cut a (x1 - y2), cut a (x2 - y1)) := by
  unfold Ok at hx hy; dsimp only at hx hy
  show subT a _ _ = _
  unfold subT; dsimp only
  rw [if_pos (by omega), cut_w a _ (by omega) (by omega), cut_w a _ (by omega) (by omega)]
theorem sub_cut {a x1 x2 y1 y2 : Int} (hx : Ok a (x1, x2)) (hy : Ok a (y1, y2)) (h : y1 > x2) : tab 9 a (x1, x2) (y1, y2) = (cut a (x1 - y2), cut a (x2 - y1)) := by
  unfold Ok at hx hy; dsimp only at hx hy
  show subT a _ _ = _
  unfold subT; dsimp only
  rw [if_neg (by omega), if_pos (by omega), cut_under a _ (by omega) (by omega), cut_under a _ (by omega) (by omega)]
theorem sub_no {a x1 x2 y1 y2 : Int} (h1 : y2 > x1) (h2 : ¬ y1 > x2) : tab 9 a (x1, x2) (y1, y2) = whole a := by
  show subT a _ _ = _
  unfold subT; dsimp only
  rw [if_neg (by omega), if_neg (by omega)]
theorem mul_yes {a x1 x2 y1 y2 : Int} (h : x2 * y2 ≤ msk a) : tab 10 a (x1, x2) (y1, y2) = (x1 * y1, x2 * y2) := by
  show mulT a _ _ = _
  unfold mulT; dsimp only; rw [if_pos h]
theorem mul_no {a x1 x2 y1 y2 : Int} (h : ¬ x2 * y2 ≤ msk a) : tab 10 a (x1, x2) (y1, y2) = whole a := by
  show mulT a _ _ = _
  unfold mulT; dsimp only; rw [if_neg h]
theorem div_no {a x1 x2 y2 : Int} : tab 11 a (x1, x2) (0, y2) = whole a := rfl
theorem div_yes {a x1 x2 y1 y2 : Int} (h : y1 ≠ 0) : tab 11 a (x1, x2) (y1, y2) = (x1 / y2, x2 / y1) := by
  show divT a _ _ = _
  unfold divT; dsimp only; rw [if_neg h]
theorem shl_yes {a x1 x2 y1 y2 : Int} (hx : Ok a (x1, x2)) (hy : Ok a (y1, y2)) (h1 : y2 < wid a) (h2 : x2 ≤ msk a / pw (sh y2)) : tab 16 a (x1, x2) (y1, y2) = (IntKind.u64.wrap (x1 * pw (sh y1)), IntKind.u64.wrap (x2 * pw (sh y2))) := by
  have hw := wid_hi a
  have hmh := msk_hi a
  unfold Ok at hx hy; dsimp only at hx hy
  have s1 : sh y1 = y1.toNat := by unfold sh; omega
  have s2 : sh y2 = y2.toNat := by unfold sh; omega
  have hp : x2 * pw (sh y2) ≤ msk a := by rw [Int.le_ediv_iff_mul_le (pw_pos _)] at h2; exact h2
  have hq : x1 * pw (sh y1) ≤ x2 * pw (sh y2) := mul_mono _ _ _ _ (by omega) (by omega) (Int.le_of_lt (pw_pos _)) (pw_sh_mono (by omega))
  have z1 := Int.mul_nonneg (show 0 ≤ x1 by omega) (Int.le_of_lt (pw_pos (sh y1)))
  have z2 := Int.mul_nonneg (show 0 ≤ x2 by omega) (Int.le_of_lt (pw_pos (sh y2)))
  have w1 : IntKind.u64.wrap (x1 * pw (sh y1)) = x1 * pw (sh y1) := by rw [IntKind.wrap_u64]; omega
  have w2 : IntKind.u64.wrap (x2 * pw (sh y2)) = x2 * pw (sh y2) := by rw [IntKind.wrap_u64]; omega
  rw [w1, w2, s1, s2]
  rw [s2] at hp
  show shlT a _ _ = _
  unfold shlT; dsimp only
  rw [if_pos ⟨h1, hp⟩]
theorem shl_no {a x1 x2 y1 y2 : Int} (hy : Ok a (y1, y2)) (h : ¬ (y2 < wid a ∧ x2 ≤ msk a / pw (sh y2))) : tab 16 a (x1, x2) (y1, y2) = whole a := by
  have hw := wid_hi a
  unfold Ok at hy; dsimp only at hy
  show shlT a _ _ = _
  unfold shlT; dsimp only
  rw [if_neg]
  rintro ⟨h1, h2⟩
  refine h ⟨h1, ?_⟩
  rw [Int.le_ediv_iff_mul_le (pw_pos _), show sh y2 = y2.toNat by unfold sh; omega]
  exact h2
theorem wid_len (a : Int) : ((Lib.bitLen (msk a).toNat : Nat) : Int) = wid a := by
  have h1 : ∀ n : Nat, n ≤ 64 → Lib.bitLen (2 ^ n - 1) = n := by decide +kernel
  rw [msk_nat, h1 _ (wid_hi a)]
end Go.Proofs.Ytbjckcjfambpoaa.Sn
