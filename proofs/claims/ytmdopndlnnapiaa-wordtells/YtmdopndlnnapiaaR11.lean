/-
  The contracts of the reference's Apply, Sign, Mask, Of and Num, in the words' own numbers.
-/
import Derived.Test.YtmdopndlnnapiaaR10
import Derived.Test.YtmdopndlnnapiaaBits3
namespace Go.Proofs.Ytmdopndlnnapiaa
open Go.RowKit

theorem rapply_any (op a : Int) (x y : Nat) (hx : x < 18446744073709551616) (hy : y < 18446744073709551616) (w : World) :
    Calls Try.prog 12 #[.int .i64 op, .int .i64 a, .int .u64 x, .int .u64 y] w fun e w' => e = .returned (.int .u64 (Wd.app op a x y)) ∧ Below w.heap.size w w' := by
  have h1 := Wd.wid_lo a
  have h2 := Wd.wid_hi a
  by_cases h5 : op = 5
  · subst h5
    rw [← Wb.j_not a x y]
    exact rap_not a x y _ _ _ _ _ (Lib.hid rfl) (Lib.hid rfl) (Lib.hid rfl) (Lib.hid rfl) (Lib.hid rfl) hx hy h1 h2 w
  by_cases h8 : op = 8
  · subst h8
    rw [← Wb.j_add a x y]
    exact rap_add a x y _ _ _ _ _ (Lib.hid rfl) (Lib.hid rfl) (Lib.hid rfl) (Lib.hid rfl) (Lib.hid rfl) hx hy h1 h2 w
  by_cases h9 : op = 9
  · subst h9
    rw [← Wb.j_sub a x y]
    exact rap_sub a x y _ _ _ _ _ (Lib.hid rfl) (Lib.hid rfl) (Lib.hid rfl) (Lib.hid rfl) (Lib.hid rfl) hx hy h1 h2 w
  by_cases h10 : op = 10
  · subst h10
    rw [← Wb.j_mul a x y]
    exact rap_mul a x y _ _ _ _ _ (Lib.hid rfl) (Lib.hid rfl) (Lib.hid rfl) (Lib.hid rfl) (Lib.hid rfl) hx hy h1 h2 w
  by_cases h11 : op = 11
  · subst h11
    rw [← Wb.j_div a x y]
    exact rap_div a x y _ _ _ _ _ (Lib.hid rfl) (Lib.hid rfl) (Lib.hid rfl) (Lib.hid rfl) (Lib.hid rfl) hx hy h1 h2 w
  by_cases h12 : op = 12
  · subst h12
    rw [← Wb.j_rem a x y]
    exact rap_rem a x y _ _ _ _ _ (Lib.hid rfl) (Lib.hid rfl) (Lib.hid rfl) (Lib.hid rfl) (Lib.hid rfl) hx hy h1 h2 w
  by_cases h13 : op = 13
  · subst h13
    rw [← Wb.j_and a x y]
    exact rap_and a x y _ _ _ _ _ (Lib.hid rfl) (Lib.hid rfl) (Lib.hid rfl) (Lib.hid rfl) (Lib.hid rfl) hx hy h1 h2 w
  by_cases h14 : op = 14
  · subst h14
    rw [← Wb.j_or a x y]
    exact rap_or a x y _ _ _ _ _ (Lib.hid rfl) (Lib.hid rfl) (Lib.hid rfl) (Lib.hid rfl) (Lib.hid rfl) hx hy h1 h2 w
  by_cases h15 : op = 15
  · subst h15
    rw [← Wb.j_xor a x y]
    exact rap_xor a x y _ _ _ _ _ (Lib.hid rfl) (Lib.hid rfl) (Lib.hid rfl) (Lib.hid rfl) (Lib.hid rfl) hx hy h1 h2 w
  by_cases h16 : op = 16
  · subst h16
    rw [← Wb.j_shl a x y]
    exact rap_shl a x y _ _ _ _ _ (Lib.hid rfl) (Lib.hid rfl) (Lib.hid rfl) (Lib.hid rfl) (Lib.hid rfl) hx hy h1 h2 w
  by_cases h17 : op = 17
  · subst h17
    rw [← Wb.j_shr a x y]
    exact rap_shr a x y _ _ _ _ _ (Lib.hid rfl) (Lib.hid rfl) (Lib.hid rfl) (Lib.hid rfl) (Lib.hid rfl) hx hy h1 h2 w
  by_cases h18 : op = 18
  · subst h18
    rw [← Wb.j_sar a x y]
    exact rap_sar a x y _ _ _ _ _ (Lib.hid rfl) (Lib.hid rfl) (Lib.hid rfl) (Lib.hid rfl) (Lib.hid rfl) hx hy h1 h2 w
  by_cases h19 : op = 19
  · subst h19
    rw [← Wb.j_eq a x y _ rfl]
    exact rap_eq a x y _ _ _ _ _ (Lib.hid rfl) (Lib.hid rfl) (Lib.hid rfl) (Lib.hid rfl) (Lib.hid rfl) hx hy h1 h2 _ (Lib.hid rfl) w
  by_cases h20 : op = 20
  · subst h20
    rw [← Wb.j_less a x y _ rfl]
    exact rap_less a x y _ _ _ _ _ (Lib.hid rfl) (Lib.hid rfl) (Lib.hid rfl) (Lib.hid rfl) (Lib.hid rfl) hx hy h1 h2 _ (Lib.hid rfl) w
  by_cases h21 : op = 21
  · subst h21
    by_cases hne : (Wb.ofB (Wd.wid a) x (Wd.wid a - 1) == Wb.ofB (Wd.wid a) y (Wd.wid a - 1)) = true
    · rw [← Wb.j_below2 a x y _ rfl hne]
      exact rap_below2 a x y _ _ _ _ _ (Lib.hid rfl) (Lib.hid rfl) (Lib.hid rfl) (Lib.hid rfl) (Lib.hid rfl) hx hy h1 h2 _ (Lib.hid rfl) hne w
    · have hne' : (Wb.ofB (Wd.wid a) x (Wd.wid a - 1) == Wb.ofB (Wd.wid a) y (Wd.wid a - 1)) = false := by simpa using hne
      rw [← Wb.j_below1 a x y hne']
      exact rap_below1 a x y _ _ _ _ _ (Lib.hid rfl) (Lib.hid rfl) (Lib.hid rfl) (Lib.hid rfl) (Lib.hid rfl) hx hy h1 h2 hne' w
  have e : Wd.app op a x y = 0 := by simp [Wd.app, h5, h8, h9, h10, h11, h12, h13, h14, h15, h16, h17, h18, h19, h20, h21]
  rw [e]
  exact rap_none op a x y _ _ _ _ _ (Lib.hid rfl) (Lib.hid rfl) (Lib.hid rfl) (Lib.hid rfl) (Lib.hid rfl) hx hy h1 h2 (beq_eq_false_iff_ne.2 h5) (beq_eq_false_iff_ne.2 h8) (beq_eq_false_iff_ne.2 h9) (beq_eq_false_iff_ne.2 h10) (beq_eq_false_iff_ne.2 h11) (beq_eq_false_iff_ne.2 h12) (beq_eq_false_iff_ne.2 h13) (beq_eq_false_iff_ne.2 h14) (beq_eq_false_iff_ne.2 h15) (beq_eq_false_iff_ne.2 h16) (beq_eq_false_iff_ne.2 h17) (beq_eq_false_iff_ne.2 h18) (beq_eq_false_iff_ne.2 h19) (beq_eq_false_iff_ne.2 h20) (beq_eq_false_iff_ne.2 h21) w
theorem rsign_all (a : Int) (x : Nat) (hx : x < 18446744073709551616) (w : World) :
    Calls Try.prog 19 #[.int .i64 a, .int .u64 x] w fun e w' => e = .returned (.int .i64 (Wd.sgn a x)) ∧ Below w.heap.size w w' := by
  rw [← Wb.j_sign a x]
  exact rsign_any a x _ _ (Lib.hid rfl) (Lib.hid rfl) hx (Wd.wid_lo a) (Wd.wid_hi a) w
theorem rmask_all (a : Int) (w : World) :
    Calls Try.prog 10 #[.int .i64 a] w fun e w' => e = .returned (.int .u64 (Wd.msk a)) ∧ Below w.heap.size w w' := by
  rw [← Wb.j_mask a]
  exact rmask_any a _ (Lib.hid rfl) (Wd.wid_hi a) w
end Go.Proofs.Ytmdopndlnnapiaa
