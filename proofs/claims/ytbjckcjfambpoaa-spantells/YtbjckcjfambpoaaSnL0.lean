/-
  Layer 11: Apply whole; the laws' example; what the laws say, plainly.
-/
import Derived.Test.YtbjckcjfambpoaaSnWd
namespace Go.Proofs.Ytbjckcjfambpoaa
set_option linter.unusedSimpArgs false
set_option linter.unusedVariables false
open Go.RowKit Go.Maps
set_option maxRecDepth 100000

theorem apply_any (op a : Int) (x y : Sn.S) (hx : Sn.U x) (hy : Sn.U y) (w : World) :
    Calls Try.prog 9 #[.int .i64 op, .int .i64 a, Sn.v x, Sn.v y] w fun e w' => e = .returned (Sn.v (Sn.apply op a x y)) ∧ Below w.heap.size w w' := by
  have hpx := Sn.rt_ok a x hx.1.1
  have hpy := Sn.rt_ok a y hy.1.1
  unfold Sn.apply Sn.ap
  by_cases hn : (Sn.rt a x).1 = (Sn.rt a x).2 ∧ (Sn.rt a y).1 = (Sn.rt a y).2
  · rw [if_pos hn]; exact apply_pt op a x y w hn.1 hn.2 hpx hpy
  rw [if_neg hn]
  by_cases h5 : op = 5
  · have e : Sn.tab op a (Sn.rt a x) (Sn.rt a y) = (Wd.msk a - (Sn.rt a x).2, Wd.msk a - (Sn.rt a x).1) := by subst h5; rfl
    rw [e]; exact apply_not op a x y w h5 hn hpx hpy
  by_cases h8 : op = 8 ∨ op = 9 ∨ op = 10 ∨ op = 11
  · exact apply_num op a x y w h8 hn hpx hpy
  by_cases h12 : op = 12
  · exact apply_rem op a x y w h12 hn hpx hpy
  by_cases h13 : op = 13 ∨ op = 14 ∨ op = 15
  · exact apply_bit op a x y w h13 hn hpx hpy
  by_cases h16 : op = 16 ∨ op = 17 ∨ op = 18
  · exact apply_shf op a x y w h16 hn hpx hpy
  by_cases h19 : op = 19 ∨ op = 20 ∨ op = 21
  · have e : Sn.tab op a (Sn.rt a x) (Sn.rt a y) = Sn.cmpT op a (Sn.rt a x) (Sn.rt a y) := by
      rcases h19 with h | h | h <;> subst h <;> rfl
    rw [e]; exact apply_cmp op a x y w h19 hn hpx hpy
  have e : Sn.tab op a (Sn.rt a x) (Sn.rt a y) = (0, 0) := by
    unfold Sn.tab
    rw [if_neg h5, if_neg (by omega), if_neg (by omega), if_neg (by omega), if_neg (by omega), if_neg (by omega), if_neg (by omega), if_neg (by omega), if_neg (by omega), if_neg (by omega), if_neg (by omega), if_neg (by omega), if_neg (by omega), if_neg (by omega), if_neg (by omega)]
  rw [e]; exact apply_none op a x y w (by omega) hn hpx hpy

theorem Sn.apply_ok (op a : Int) (x y : Sn.S) (hx : 0 ≤ x.1) (hy : 0 ≤ y.1) : Sn.Ok a (Sn.apply op a x y) := Sn.ap_ok op a _ _ (Sn.rt_ok a x hx) (Sn.rt_ok a y hy)

set_option maxHeartbeats 1600000 in
theorem sn_awake (w : World) :
    Calls Try.prog 8 #[] w fun e w' => e = .returned (.bool true) ∧ Below w.heap.size w w' := by
  have h1 := fun W => apply_any 8 8 (200, 210) (50, 60) (by unfold Sn.U; decide) (by unfold Sn.U; decide) W
  rw [show Sn.apply 8 8 (200, 210) (50, 60) = (0, 255) by decide +kernel] at h1
  have h2 := fun W => apply_any 8 8 (250, 255) (10, 10) (by unfold Sn.U; decide) (by unfold Sn.U; decide) W
  rw [show Sn.apply 8 8 (250, 255) (10, 10) = (4, 9) by decide +kernel] at h2
  have h3 := fun W => has_any 8 (3, 5) 260 W
  rw [show Sn.has 8 (3, 5) 260 = true by decide +kernel] at h3
  have H1 := Lib.hid h1
  have H2 := Lib.hid h2
  have H3 := Lib.hid h3
  clear h1 h2 h3
  go_enter Try.func8, Try.ntmps8
  go_wp2_with fail
  refine (H1.out w).mono ?_
  rintro e w1 ⟨rfl, b1⟩
  have HB1 := Lib.hid b1
  clear b1
  go_wp2_with fail
  refine (H2.out w1).mono ?_
  rintro e w2 ⟨rfl, b2⟩
  have HB2 := Lib.hid (Sn.below_next HB1.out b2 HB1.out.size)
  clear b2
  go_wp2_with fail
  refine (H3.out w2).mono ?_
  rintro e w3 ⟨rfl, b3⟩
  have HB3 := Lib.hid (Sn.below_next HB2.out b3 HB2.out.size)
  clear b3
  go_wp2_with fail
  go_ret
  exact ⟨rfl, HB3.out⟩


end Go.Proofs.Ytbjckcjfambpoaa
