/-
  The contract of the laws' own examples (awake), and what the laws want of the plain arithmetic.
-/
import Derived.Test.YtmdopndlnnapiaaW2
namespace Go.Proofs.Ytmdopndlnnapiaa
open Go.RowKit

set_option maxHeartbeats 400000 in
theorem awake_any (w : World) :
    Calls Try.prog 9 #[] w fun e w' => e = .returned (.bool true) ∧ ∃ n, w' = w.drewN n := by
  have e1 : (Wd.app 8 8 200 100 == 44) = true := by decide +kernel
  have e2 : (Wd.app 9 8 200 100 == 100) = true := by decide +kernel
  have e3 : (Wd.app 11 8 200 100 == 2) = true := by decide +kernel
  have e4 : (Wd.sgn 8 200 == -56) = true := by decide +kernel
  have e5 : (Wd.app 18 8 200 4 == 252) = true := by decide +kernel
  have e6 : (Wd.msk 8 == 255) = true := by decide +kernel
  have e7 : (Wd.cut 8 300 == 44) = true := by decide +kernel
  go_enter Try.func9, Try.ntmps9
  go_wp2_with (first
    | (go_at_call 11; refine (app_any _ _ _ _ _).mono ?_; rintro e w' ⟨rfl, n, rfl⟩)
    | (go_at_call 18; refine (sign_any _ _ _).mono ?_; rintro e w' ⟨rfl, rfl⟩)
    | (go_at_call 13; refine (mask_any _ _).mono ?_; rintro e w' ⟨rfl, rfl⟩)
    | (go_at_call 14; refine (cut_any _ _ _).mono ?_; rintro e w' ⟨rfl, rfl⟩))
  go_ret
  exact ⟨rfl, _, rfl⟩

theorem grown_drewN {W w' : World} (h : Grown W w') (n : Nat) : Grown W (w'.drewN n) := h
end Go.Proofs.Ytmdopndlnnapiaa
