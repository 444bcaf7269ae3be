/-
  Layer 11, plain: spans of words, what an operation makes of two of them, and what the promises say.
-/
import Derived.Test.YtbjckcjfambpoaaWdPlain2
import Derived.Lib.BitFns
namespace Go.Proofs.Ytbjckcjfambpoaa.Sn
set_option linter.unusedSimpArgs false
set_option linter.unusedVariables false
set_option maxRecDepth 100000
open Wd

abbrev S := Int × Int
/-- A span as it counts. -/
def Ok (a : Int) (s : S) : Prop := 0 ≤ s.1 ∧ s.1 ≤ s.2 ∧ s.2 ≤ msk a
def whole (a : Int) : S := (0, msk a)
def rt (a : Int) (s : S) : S := if s.2 < s.1 ∨ msk a < s.2 then whole a else s
def has (a : Int) (s : S) (x : Int) : Bool := decide ((rt a s).1 ≤ cut a x) && decide (cut a x ≤ (rt a s).2)
def meet (a : Int) (x y : S) : S × Bool :=
  if min (rt a x).2 (rt a y).2 < max (rt a x).1 (rt a y).1 then ((0, 0), false) else ((max (rt a x).1 (rt a y).1, min (rt a x).2 (rt a y).2), true)
def join (a : Int) (x y : S) : S := (min (rt a x).1 (rt a y).1, max (rt a x).2 (rt a y).2)
def ones (n : Int) : Int := ((2 ^ Lib.bitLen n.toNat - 1 : Nat) : Int)
def less (x y : S) : S := if x.2 < y.1 then (1, 1) else if y.2 ≤ x.1 then (0, 0) else (0, 1)
def below (a : Int) (x y : S) : S :=
  if (x.2 < hib a ∧ y.2 < hib a) ∨ (hib a ≤ x.1 ∧ hib a ≤ y.1) then less x y
  else if hib a ≤ x.1 ∧ y.2 < hib a then (1, 1)
  else if x.2 < hib a ∧ hib a ≤ y.1 then (0, 0) else (0, 1)
def addT (a : Int) (x y : S) : S :=
  if x.2 + y.2 ≤ msk a then (x.1 + y.1, x.2 + y.2) else if msk a < x.1 + y.1 then (x.1 + y.1 - (msk a + 1), x.2 + y.2 - (msk a + 1)) else whole a
def subT (a : Int) (x y : S) : S :=
  if y.2 ≤ x.1 then (x.1 - y.2, x.2 - y.1) else if x.2 < y.1 then (x.1 - y.2 + (msk a + 1), x.2 - y.1 + (msk a + 1)) else whole a
def mulT (a : Int) (x y : S) : S := if x.2 * y.2 ≤ msk a then (x.1 * y.1, x.2 * y.2) else whole a
def divT (a : Int) (x y : S) : S := if y.1 = 0 then whole a else (x.1 / y.2, x.2 / y.1)
def remT (x y : S) : S := if x.2 < y.1 then x else if y.1 = 0 then (0, x.2) else (0, min x.2 (y.2 - 1))
def shlT (a : Int) (x y : S) : S := if y.2 < wid a ∧ x.2 * pw y.2.toNat ≤ msk a then (x.1 * pw y.1.toNat, x.2 * pw y.2.toNat) else whole a
def shrT (x y : S) : S := (x.1 / pw (sh y.2), x.2 / pw (sh y.1))
def sarT (a : Int) (x y : S) : S := if x.2 < hib a then shrT x y else whole a
def eqT (x y : S) : S := if x.2 < y.1 ∨ y.2 < x.1 then (0, 0) else (0, 1)
/-- The chapter's table, of two spans that are right. -/
def tab (op a : Int) (x y : S) : S :=
  if op = 5 then (msk a - x.2, msk a - x.1)
  else if op = 8 then addT a x y
  else if op = 9 then subT a x y
  else if op = 10 then mulT a x y
  else if op = 11 then divT a x y
  else if op = 12 then remT x y
  else if op = 13 then (0, min x.2 y.2)
  else if op = 14 then (max x.1 y.1, ones (max x.2 y.2))
  else if op = 15 then (0, ones (max x.2 y.2))
  else if op = 16 then shlT a x y
  else if op = 17 then shrT x y
  else if op = 18 then sarT a x y
  else if op = 19 then eqT x y
  else if op = 20 then less x y
  else if op = 21 then below a x y
  else (0, 0)
def ap (op a : Int) (x y : S) : S := if x.1 = x.2 ∧ y.1 = y.2 then (app op a x.1 y.1, app op a x.1 y.1) else tab op a x y
def apply (op a : Int) (x y : S) : S := ap op a (rt a x) (rt a y)

/-! ### right spans -/
theorem whole_ok (a : Int) : Ok a (whole a) := by have := msk_lo a; unfold Ok whole; dsimp only; omega
theorem rt_ok (a : Int) (s : S) (h : 0 ≤ s.1) : Ok a (rt a s) := by
  unfold rt; split
  · exact whole_ok a
  · unfold Ok; omega
theorem rt_of (a : Int) (s : S) (h : Ok a s) : rt a s = s := by unfold Ok at h; unfold rt; rw [if_neg (by omega)]
theorem rt_bad (a : Int) (s : S) (h : ¬ (s.1 ≤ s.2 ∧ s.2 ≤ msk a)) : rt a s = whole a := by unfold rt; rw [if_pos (by omega)]
theorem rt_rt (a : Int) (s : S) (h : 0 ≤ s.1) : rt a (rt a s) = rt a s := rt_of a _ (rt_ok a s h)
theorem join_ok (a : Int) (x y : S) (hx : 0 ≤ x.1) (hy : 0 ≤ y.1) : Ok a (join a x y) := by
  have h1 := rt_ok a x hx; have h2 := rt_ok a y hy
  unfold Ok at *; unfold join; dsimp only; omega
theorem meet_ok (a : Int) (x y : S) (hx : 0 ≤ x.1) (hy : 0 ≤ y.1) (h : (meet a x y).2 = true) : Ok a (meet a x y).1 := by
  have h1 := rt_ok a x hx; have h2 := rt_ok a y hy
  unfold Ok at *
  by_cases hc : min (rt a x).2 (rt a y).2 < max (rt a x).1 (rt a y).1
  · unfold meet at h; rw [if_pos hc] at h; cases h
  · unfold meet; rw [if_neg hc]; dsimp only; omega
theorem meet_comm (a : Int) (x y : S) : meet a x y = meet a y x := by
  unfold meet; rw [Int.min_comm, Int.max_comm]
theorem join_comm (a : Int) (x y : S) : join a x y = join a y x := by
  unfold join; rw [Int.min_comm, Int.max_comm]
theorem has_iff (a : Int) (s : S) (x : Int) : has a s x = true ↔ (rt a s).1 ≤ cut a x ∧ cut a x ≤ (rt a s).2 := by
  unfold has; simp
theorem cut_w (a p : Int) (h0 : 0 ≤ p) (h : p ≤ msk a) : cut a p = p := cut_of_lt h0 (by unfold msk at h; omega)

/-! ### what a number's bits are -/
theorem bl_lt : ∀ f x : Nat, x < 2 ^ f → x < 2 ^ Lib.bitLenAux f x
  | 0, x, h => h
  | f + 1, x, h => by
    simp only [Lib.bitLenAux]
    split
    · rename_i hx; subst hx; decide
    · have := bl_lt f (x / 2) (by rw [Nat.pow_succ] at h; omega)
      rw [Nat.add_comm, Nat.pow_succ]; omega
theorem bl_ge : ∀ f x k : Nat, Lib.bitLenAux f x = k + 1 → 2 ^ k ≤ x
  | 0, _, _, h => by simp [Lib.bitLenAux] at h
  | f + 1, x, k, h => by
    simp only [Lib.bitLenAux] at h
    split at h
    · cases h
    · rename_i hx
      cases k with
      | zero => omega
      | succ k =>
        have := bl_ge f (x / 2) k (by omega)
        rw [Nat.pow_succ]; omega
theorem msk_toNat_lt (a n : Int) (h : n ≤ msk a) : n.toNat < 2 ^ wid a := by
  have := msk_nat a; have := Nat.two_pow_pos (wid a); omega
theorem ones_ge (a n : Int) (h0 : 0 ≤ n) (h : n ≤ msk a) : n ≤ ones n := by
  have h1 := msk_toNat_lt a n h
  have h2 : n.toNat < 2 ^ 64 := Nat.lt_of_lt_of_le h1 (Nat.pow_le_pow_right (by decide) (wid_hi a))
  have := bl_lt 64 n.toNat h2
  unfold ones Lib.bitLen; omega
theorem ones_le (a n : Int) (h : n ≤ msk a) : ones n ≤ msk a := by
  have h1 := msk_toNat_lt a n h
  have h3 := Lib.bitLen_le n.toNat (wid a) (wid_hi a) h1
  have h4 : 2 ^ Lib.bitLen n.toNat ≤ 2 ^ wid a := Nat.pow_le_pow_right (by decide) h3
  have := msk_nat a; have := msk_lo a
  unfold ones; omega
theorem ones_nn (n : Int) : 0 ≤ ones n := by unfold ones; omega
theorem ones_mono (a m n : Int) (h0 : 0 ≤ m) (h : m ≤ n) (hn : n ≤ msk a) : ones m ≤ ones n := by
  have h1 := msk_toNat_lt a n hn
  have h2 : n.toNat < 2 ^ 64 := Nat.lt_of_lt_of_le h1 (Nat.pow_le_pow_right (by decide) (wid_hi a))
  have h3 := bl_lt 64 n.toNat h2
  have h5 : Lib.bitLen n.toNat ≤ 64 := Lib.bitLen_le n.toNat 64 (Nat.le_refl _) h2
  have h4 := Lib.bitLen_le m.toNat (Lib.bitLen n.toNat) h5 (by unfold Lib.bitLen; omega)
  have h6 : 2 ^ Lib.bitLen m.toNat ≤ 2 ^ Lib.bitLen n.toNat := Nat.pow_le_pow_right (by decide) h4
  unfold ones; omega
theorem or_le_ones (a p q : Int) (hp : 0 ≤ p) (hq : 0 ≤ q) (hp' : p ≤ msk a) (hq' : q ≤ msk a) (m : Int) (h1 : p ≤ m) (h2 : q ≤ m) (hm : m ≤ msk a) :
    ((p.toNat ||| q.toNat : Nat) : Int) ≤ ones m ∧ ((p.toNat ^^^ q.toNat : Nat) : Int) ≤ ones m := by
  have h3 := msk_toNat_lt a m hm
  have h4 : m.toNat < 2 ^ 64 := Nat.lt_of_lt_of_le h3 (Nat.pow_le_pow_right (by decide) (wid_hi a))
  have h5 := bl_lt 64 m.toNat h4
  have h6 : p.toNat < 2 ^ Lib.bitLen m.toNat := by unfold Lib.bitLen; omega
  have h7 : q.toNat < 2 ^ Lib.bitLen m.toNat := by unfold Lib.bitLen; omega
  have h8 := Nat.or_lt_two_pow h6 h7
  have h9 := Nat.xor_lt_two_pow h6 h7
  unfold ones; omega

/-! ### order -/
theorem div_mono (a p d q : Int) (ha : 0 ≤ a) (h : a ≤ p) (hq : 0 < q) (hd : q ≤ d) : a / d ≤ p / q := by
  rw [Int.le_ediv_iff_mul_le hq]
  have h1 : a / d * d ≤ a := Int.ediv_mul_le _ (by omega)
  have h2 : a / d * q ≤ a / d * d := Int.mul_le_mul_of_nonneg_left hd (Int.ediv_nonneg ha (by omega))
  omega
theorem mul_mono (a b c d : Int) (ha : 0 ≤ a) (hab : a ≤ b) (hc : 0 ≤ c) (hcd : c ≤ d) : a * c ≤ b * d :=
  Int.mul_le_mul hab hcd hc (by omega)
theorem sh_mono {x y : Int} (h : x ≤ y) : sh x ≤ sh y := by unfold sh; omega
theorem pw_sh_mono {x y : Int} (h : x ≤ y) : pw (sh x) ≤ pw (sh y) := pw_mono (sh_mono h)
theorem shr_mono (p p' q q' : Int) (h0 : 0 ≤ p) (h : p ≤ p') (hq : q' ≤ q) : p / pw (sh q) ≤ p' / pw (sh q') :=
  div_mono _ _ _ _ h0 h (pw_pos _) (pw_sh_mono hq)

/-! ### an answer lies in its span -/
def In (p : Int) (s : S) : Prop := s.1 ≤ p ∧ p ≤ s.2
theorem in_whole (a p : Int) (h0 : 0 ≤ p) (h1 : p ≤ msk a) : In p (whole a) := ⟨h0, h1⟩
theorem ite_nn {c : Prop} [Decidable c] {p q : Int} (h1 : 0 ≤ p) (h2 : 0 ≤ q) : 0 ≤ (if c then p else q) := by split <;> assumption
theorem app_nn (op a x y : Int) : 0 ≤ app op a x y := by
  have hm := msk_lo a
  have hx := cut_lo a x; have hy := cut_lo a y; have hxm := cut_hi_le a x
  unfold app
  refine ite_nn (by omega) (ite_nn (cut_lo _ _) (ite_nn (cut_lo _ _) (ite_nn (cut_lo _ _) (ite_nn ?_ (ite_nn ?_ (ite_nn (Int.natCast_nonneg _) (ite_nn (Int.natCast_nonneg _) (ite_nn (Int.natCast_nonneg _) (ite_nn (cut_lo _ _) (ite_nn (Int.ediv_nonneg hx (Int.le_of_lt (pw_pos _))) (ite_nn (cut_lo _ _) (ite_nn ?_ (ite_nn ?_ (ite_nn ?_ (Int.le_refl _)))))))))))))))
  · unfold dvd; rw [if_neg (by decide)]; exact ite_nn (by omega) (Int.ediv_nonneg hx hy)
  · unfold dvd; rw [if_pos rfl]
    split
    · omega
    · exact Int.emod_nonneg _ (by assumption)
  · unfold eqv; exact ite_nn (by decide) (by decide)
  · unfold ltv; exact ite_nn (by decide) (by decide)
  · unfold ltv; exact ite_nn (by decide) (by decide)
theorem in_whole_app (op a x y : Int) : In (app op a x y) (whole a) := ⟨app_nn _ _ _ _, app_le _ _ _ _⟩

theorem in_less (x y : S) (p q : Int) (hp : In p x) (hq : In q y) : In (ltv p q) (less x y) := by
  unfold In at *; unfold less ltv
  split
  · rw [if_pos (by omega)]; decide
  · split
    · rw [if_neg (by omega)]; decide
    · split <;> decide
theorem in_below (a : Int) (x y : S) (p q : Int) (hp : In p x) (hq : In q y) (p0 : 0 ≤ p) (p1 : p ≤ msk a) (q0 : 0 ≤ q) (q1 : q ≤ msk a) : In (ltv (sgn a p) (sgn a q)) (below a x y) := by
  have hb := pw_hib a
  have hm : msk a = pw (wid a) - 1 := rfl
  have sp : sgn a p = if p < hib a then p else p - pw (wid a) := sgn_word a p p0 (by omega)
  have sq : sgn a q = if q < hib a then q else q - pw (wid a) := sgn_word a q q0 (by omega)
  have hp' := hp; have hq' := hq
  unfold In at hp hq
  unfold below
  split
  · rename_i h
    have e : ltv (sgn a p) (sgn a q) = ltv p q := by
      rw [sp, sq]; unfold ltv
      repeat' split
      all_goals omega
    rw [e]; exact in_less x y p q hp' hq'
  · split
    · have e : ltv (sgn a p) (sgn a q) = 1 := by rw [sp, sq, if_neg (by omega), if_pos (by omega)]; unfold ltv; rw [if_pos (by omega)]
      rw [e]; unfold In; decide
    · split
      · have e : ltv (sgn a p) (sgn a q) = 0 := by rw [sp, sq, if_pos (by omega), if_neg (by omega)]; unfold ltv; rw [if_neg (by omega)]
        rw [e]; unfold In; decide
      · unfold In ltv; split <;> decide

theorem in_tab (op a : Int) (x y : S) (hx : Ok a x) (hy : Ok a y) (p q : Int) (hp : In p x) (hq : In q y) : In (app op a p q) (tab op a x y) := by
  have hm := msk_lo a
  have hb := pw_hib a
  have hmd : msk a = pw (wid a) - 1 := rfl
  have hp' := hp; have hq' := hq
  unfold Ok at hx hy
  unfold In at hp hq
  have cp : cut a p = p := cut_w a p (by omega) (by omega)
  have cq : cut a q = q := cut_w a q (by omega) (by omega)
  unfold tab
  by_cases h5 : op = 5
  · subst h5; rw [if_pos rfl, app5, cp]; unfold In; dsimp only; omega
  rw [if_neg h5]
  by_cases h8 : op = 8
  · subst h8; rw [if_pos rfl, app8]; unfold addT
    split
    · rw [cut_w a _ (by omega) (by omega)]; unfold In; dsimp only; omega
    · split
      · have e : cut a (p + q) = p + q - (msk a + 1) := by
          have : cut a (p + q) = cut a (p + q - pw (wid a)) := by unfold cut; rw [Int.sub_emod_right]
          rw [this, cut_w a _ (by omega) (by omega)]; omega
        rw [e]; unfold In; dsimp only; omega
      · exact in_whole _ _ (cut_lo _ _) (cut_hi_le _ _)
  rw [if_neg h8]
  by_cases h9 : op = 9
  · subst h9; rw [if_pos rfl, app9]; unfold subT
    split
    · rw [cut_w a _ (by omega) (by omega)]; unfold In; dsimp only; omega
    · split
      · have e : cut a (p - q) = p - q + (msk a + 1) := by
          have : cut a (p - q) = cut a (p - q + pw (wid a)) := by unfold cut; rw [Int.add_emod_right]
          rw [this, cut_w a _ (by omega) (by omega)]; omega
        rw [e]; unfold In; dsimp only; omega
      · exact in_whole _ _ (cut_lo _ _) (cut_hi_le _ _)
  rw [if_neg h9]
  by_cases h10 : op = 10
  · subst h10; rw [if_pos rfl, app10]; unfold mulT
    split
    · have e1 := mul_mono x.1 p y.1 q (by omega) (by omega) (by omega) (by omega)
      have e2 := mul_mono p x.2 q y.2 (by omega) (by omega) (by omega) (by omega)
      have e3 := Int.mul_nonneg (show 0 ≤ p by omega) (show 0 ≤ q by omega)
      rw [cut_w a _ e3 (by omega)]; exact ⟨e1, e2⟩
    · exact in_whole _ _ (cut_lo _ _) (cut_hi_le _ _)
  rw [if_neg h10]
  by_cases h11 : op = 11
  · subst h11; rw [if_pos rfl]; unfold divT
    split
    · exact in_whole_app _ _ _ _
    · rw [app11, cp, cq, if_neg (by omega)]
      exact ⟨div_mono _ _ _ _ (by omega) (by omega) (by omega) (by omega), div_mono _ _ _ _ (by omega) (by omega) (by omega) (by omega)⟩
  rw [if_neg h11]
  by_cases h12 : op = 12
  · subst h12; rw [if_pos rfl, app12, cp, cq]; unfold remT
    by_cases g1 : x.2 < y.1
    · rw [if_pos g1, if_neg (by omega), Int.emod_eq_of_lt (by omega) (by omega)]; exact hp'
    · rw [if_neg g1]
      by_cases g2 : y.1 = 0
      · rw [if_pos g2]
        by_cases g3 : q = 0
        · rw [if_pos g3]; unfold In; dsimp only; omega
        · rw [if_neg g3]
          have e0 := Int.emod_nonneg p g3
          have e1 : p % q ≤ p := by have := Int.mul_ediv_add_emod p q; have := Int.mul_nonneg (show 0 ≤ q by omega) (Int.ediv_nonneg (show 0 ≤ p by omega) (show 0 ≤ q by omega)); omega
          unfold In; dsimp only; omega
      · rw [if_neg g2, if_neg (by omega)]
        have e0 := Int.emod_nonneg p (show q ≠ 0 by omega)
        have e1 := Int.emod_lt_of_pos p (show 0 < q by omega)
        have e2 : p % q ≤ p := by have := Int.mul_ediv_add_emod p q; have := Int.mul_nonneg (show 0 ≤ q by omega) (Int.ediv_nonneg (show 0 ≤ p by omega) (show 0 ≤ q by omega)); omega
        unfold In; dsimp only; omega
  rw [if_neg h12]
  by_cases h13 : op = 13
  · subst h13; rw [if_pos rfl]
    have e : app 13 a p q = ((p.toNat &&& q.toNat : Nat) : Int) := by simp [app, cp, cq]
    rw [e]
    have e1 := Nat.and_le_left (n := p.toNat) (m := q.toNat)
    have e2 := Nat.and_le_right (n := p.toNat) (m := q.toNat)
    unfold In; dsimp only; omega
  rw [if_neg h13]
  by_cases h14 : op = 14
  · subst h14; rw [if_pos rfl]
    have e : app 14 a p q = ((p.toNat ||| q.toNat : Nat) : Int) := by simp [app, cp, cq]
    rw [e]
    have e1 : p.toNat ≤ p.toNat ||| q.toNat := Nat.left_le_or
    have e2 : q.toNat ≤ p.toNat ||| q.toNat := Nat.right_le_or
    have e3 := (or_le_ones a p q (by omega) (by omega) (by omega) (by omega) (max x.2 y.2) (by omega) (by omega) (by omega)).1
    refine ⟨?_, e3⟩
    dsimp only; omega
  rw [if_neg h14]
  by_cases h15 : op = 15
  · subst h15; rw [if_pos rfl]
    have e : app 15 a p q = ((p.toNat ^^^ q.toNat : Nat) : Int) := by simp [app, cp, cq]
    rw [e]
    have e3 := (or_le_ones a p q (by omega) (by omega) (by omega) (by omega) (max x.2 y.2) (by omega) (by omega) (by omega)).2
    exact ⟨Int.natCast_nonneg _, e3⟩
  rw [if_neg h15]
  by_cases h16 : op = 16
  · subst h16; rw [if_pos rfl, app16, cp, cq]; unfold shlT
    split
    · rename_i h
      have hw := wid_hi a
      have es : sh q = q.toNat := by unfold sh; omega
      rw [es]
      have m1 : pw y.1.toNat ≤ pw q.toNat := pw_mono (by omega)
      have m2 : pw q.toNat ≤ pw y.2.toNat := pw_mono (by omega)
      have z1 := pw_pos y.1.toNat; have z2 := pw_pos q.toNat
      have e1 := mul_mono x.1 p _ _ (by omega) (by omega) (Int.le_of_lt z1) m1
      have e2 := mul_mono p x.2 _ _ (by omega) (by omega) (Int.le_of_lt z2) m2
      have e3 := Int.mul_nonneg (show 0 ≤ p by omega) (Int.le_of_lt z2)
      rw [cut_w a _ e3 (by omega)]; exact ⟨e1, e2⟩
    · exact in_whole _ _ (cut_lo _ _) (cut_hi_le _ _)
  rw [if_neg h16]
  by_cases h17 : op = 17
  · subst h17; rw [if_pos rfl, app17, cp, cq]; unfold shrT
    exact ⟨shr_mono _ _ _ _ (by omega) (by omega) (by omega), shr_mono _ _ _ _ (by omega) (by omega) (by omega)⟩
  rw [if_neg h17]
  by_cases h18 : op = 18
  · subst h18; rw [if_pos rfl, app18, cq]; unfold sarT
    split
    · have es : sgn a p = p := by rw [sgn_word a p (by omega) (by omega), if_pos (by omega)]
      have e0 := div_pw_lo p (sh q) (by omega)
      have e1 := div_pw_le p (sh q) (by omega)
      rw [es, cut_w a _ e0 (by omega)]; unfold shrT
      exact ⟨shr_mono _ _ _ _ (by omega) (by omega) (by omega), shr_mono _ _ _ _ (by omega) (by omega) (by omega)⟩
    · exact in_whole _ _ (cut_lo _ _) (cut_hi_le _ _)
  rw [if_neg h18]
  by_cases h19 : op = 19
  · subst h19; rw [if_pos rfl, app19, cp, cq]; unfold eqT eqv In
    split
    · rw [if_neg (by omega)]; decide
    · split <;> decide
  rw [if_neg h19]
  by_cases h20 : op = 20
  · subst h20; rw [if_pos rfl, app20, cp, cq]; exact in_less x y p q hp' hq'
  rw [if_neg h20]
  by_cases h21 : op = 21
  · subst h21; rw [if_pos rfl, app21]; exact in_below a x y p q hp' hq' (by omega) (by omega) (by omega) (by omega)
  rw [if_neg h21]
  have e : app op a p q = 0 := by simp [app, h5, h8, h9, h10, h11, h12, h13, h14, h15, h16, h17, h18, h19, h20, h21]
  rw [e]; unfold In; decide

/-! ### an answer's span is one -/
theorem less_bd (x y : S) : 0 ≤ (less x y).1 ∧ (less x y).2 ≤ 1 := by
  unfold less; repeat' split
  all_goals decide
theorem below_bd (a : Int) (x y : S) : 0 ≤ (below a x y).1 ∧ (below a x y).2 ≤ 1 := by
  unfold below; repeat' split
  all_goals first | exact less_bd x y | decide
def Bd (a : Int) (s : S) : Prop := 0 ≤ s.1 ∧ s.2 ≤ msk a
theorem ite_bd {a : Int} {c : Prop} [Decidable c] {s t : S} (h1 : c → Bd a s) (h2 : ¬ c → Bd a t) : Bd a (if c then s else t) := by
  by_cases h : c
  · rw [if_pos h]; exact h1 h
  · rw [if_neg h]; exact h2 h
theorem whole_bd (a : Int) : Bd a (whole a) := ⟨Int.le_refl _, Int.le_refl _⟩
theorem tab_bd (op a : Int) (x y : S) (hx : Ok a x) (hy : Ok a y) : Bd a (tab op a x y) := by
  have hm := msk_lo a
  have hmd : msk a = pw (wid a) - 1 := rfl
  unfold Ok at hx hy
  have hs : Bd a (shrT x y) := by
    have e0 := div_pw_lo x.1 (sh y.2) (by omega)
    have e1 := div_pw_le x.2 (sh y.1) (by omega)
    unfold shrT Bd; dsimp only; omega
  have ho := ones_le a (max x.2 y.2) (by omega)
  unfold tab
  refine ite_bd (fun _ => ?_) fun _ => ite_bd (fun _ => ?_) fun _ => ite_bd (fun _ => ?_) fun _ => ite_bd (fun _ => ?_) fun _ => ite_bd (fun _ => ?_) fun _ => ite_bd (fun _ => ?_) fun _ => ite_bd (fun _ => ?_) fun _ => ite_bd (fun _ => ?_) fun _ => ite_bd (fun _ => ?_) fun _ => ite_bd (fun _ => ?_) fun _ => ite_bd (fun _ => ?_) fun _ => ite_bd (fun _ => ?_) fun _ => ite_bd (fun _ => ?_) fun _ => ite_bd (fun _ => ?_) fun _ => ite_bd (fun _ => ?_) fun _ => ?_
  · unfold Bd; dsimp only; omega
  · unfold addT; exact ite_bd (fun _ => by unfold Bd; dsimp only; omega) fun _ => ite_bd (fun _ => by unfold Bd; dsimp only; omega) fun _ => whole_bd a
  · unfold subT; exact ite_bd (fun _ => by unfold Bd; dsimp only; omega) fun _ => ite_bd (fun _ => by unfold Bd; dsimp only; omega) fun _ => whole_bd a
  · unfold mulT; exact ite_bd (fun h => ⟨Int.mul_nonneg (by omega) (by omega), h⟩) fun _ => whole_bd a
  · unfold divT
    refine ite_bd (fun _ => whole_bd a) fun _ => ?_
    have := Int.ediv_le_self y.1 (show 0 ≤ x.2 by omega)
    exact ⟨Int.ediv_nonneg (by omega) (by omega), by dsimp only; omega⟩
  · unfold remT; exact ite_bd (fun _ => by unfold Bd; omega) fun _ => ite_bd (fun _ => by unfold Bd; dsimp only; omega) fun _ => by unfold Bd; dsimp only; omega
  · unfold Bd; dsimp only; omega
  · unfold Bd; dsimp only; omega
  · unfold Bd; dsimp only; omega
  · unfold shlT; exact ite_bd (fun h => ⟨Int.mul_nonneg (by omega) (Int.le_of_lt (pw_pos _)), h.2⟩) fun _ => whole_bd a
  · exact hs
  · unfold sarT; exact ite_bd (fun _ => hs) fun _ => whole_bd a
  · unfold eqT; exact ite_bd (fun _ => by unfold Bd; dsimp only; omega) fun _ => by unfold Bd; dsimp only; omega
  · have := less_bd x y; unfold Bd; omega
  · have := below_bd a x y; unfold Bd; omega
  · unfold Bd; dsimp only; omega
theorem in_self (x : S) (a : Int) (hx : Ok a x) : In x.1 x := ⟨Int.le_refl _, hx.2.1⟩
theorem tab_ok (op a : Int) (x y : S) (hx : Ok a x) (hy : Ok a y) : Ok a (tab op a x y) := by
  have h1 := tab_bd op a x y hx hy
  unfold Bd at h1
  have h2 := in_tab op a x y hx hy x.1 y.1 (in_self x a hx) (in_self y a hy)
  unfold In at h2
  unfold Ok; omega
theorem in_ap (op a : Int) (x y : S) (hx : Ok a x) (hy : Ok a y) (p q : Int) (hp : In p x) (hq : In q y) : In (app op a p q) (ap op a x y) := by
  unfold ap
  split
  · rename_i h
    unfold In at hp hq
    have e1 : p = x.1 := by omega
    have e2 : q = y.1 := by omega
    subst e1 e2
    exact ⟨Int.le_refl _, Int.le_refl _⟩
  · exact in_tab op a x y hx hy p q hp hq
theorem ap_ok (op a : Int) (x y : S) (hx : Ok a x) (hy : Ok a y) : Ok a (ap op a x y) := by
  unfold ap
  split
  · exact ⟨app_nn _ _ _ _, Int.le_refl _, app_le _ _ _ _⟩
  · exact tab_ok op a x y hx hy

/-! ### wider spans, wider answers -/
def Sub (s t : S) : Prop := t.1 ≤ s.1 ∧ s.2 ≤ t.2
theorem sub_whole (a : Int) (s : S) (h : 0 ≤ s.1 ∧ s.2 ≤ msk a) : Sub s (whole a) := h
theorem less_grows (a : Int) (x y x' y' : S) (hx : Ok a x) (hy : Ok a y) (hs : Sub x x') (ht : Sub y y') : Sub (less x y) (less x' y') := by
  unfold Ok at hx hy; unfold Sub at *
  have hl := less_bd x y
  by_cases h1 : x'.2 < y'.1
  · have e1 : less x' y' = (1, 1) := by unfold less; rw [if_pos h1]
    have e2 : less x y = (1, 1) := by unfold less; rw [if_pos (by omega)]
    rw [e1, e2]; decide
  by_cases h2 : y'.2 ≤ x'.1
  · have e1 : less x' y' = (0, 0) := by unfold less; rw [if_neg h1, if_pos h2]
    have e2 : less x y = (0, 0) := by unfold less; rw [if_neg (by omega), if_pos (by omega)]
    rw [e1, e2]; decide
  · have e1 : less x' y' = (0, 1) := by unfold less; rw [if_neg h1, if_neg h2]
    rw [e1]; exact hl
theorem below_grows (a : Int) (x y x' y' : S) (hx : Ok a x) (hy : Ok a y) (hs : Sub x x') (ht : Sub y y') : Sub (below a x y) (below a x' y') := by
  have hl := below_bd a x y
  have hg := less_grows a x y x' y' hx hy hs ht
  unfold Ok at hx hy
  have hs' := hs; have ht' := ht
  unfold Sub at hs ht
  by_cases h1 : (x'.2 < hib a ∧ y'.2 < hib a) ∨ (hib a ≤ x'.1 ∧ hib a ≤ y'.1)
  · have e1 : below a x' y' = less x' y' := by unfold below; rw [if_pos h1]
    have e2 : below a x y = less x y := by unfold below; rw [if_pos (by omega)]
    rw [e1, e2]; exact hg
  by_cases h2 : hib a ≤ x'.1 ∧ y'.2 < hib a
  · have e1 : below a x' y' = (1, 1) := by unfold below; rw [if_neg h1, if_pos h2]
    have e2 : below a x y = (1, 1) := by unfold below; rw [if_neg (by omega), if_pos (by omega)]
    rw [e1, e2]; unfold Sub; decide
  by_cases h3 : x'.2 < hib a ∧ hib a ≤ y'.1
  · have e1 : below a x' y' = (0, 0) := by unfold below; rw [if_neg h1, if_neg h2, if_pos h3]
    have e2 : below a x y = (0, 0) := by unfold below; rw [if_neg (by omega), if_neg (by omega), if_pos (by omega)]
    rw [e1, e2]; unfold Sub; decide
  · have e1 : below a x' y' = (0, 1) := by unfold below; rw [if_neg h1, if_neg h2, if_neg h3]
    rw [e1]; exact hl
theorem tab_grows (op a : Int) (x y x' y' : S) (hx : Ok a x) (hy : Ok a y) (hx' : Ok a x') (hy' : Ok a y') (hs : Sub x x') (ht : Sub y y') : Sub (tab op a x y) (tab op a x' y') := by
  have hm := msk_lo a
  have hbd := tab_bd op a x y hx hy
  have hgl := less_grows a x y x' y' hx hy hs ht
  have hgb := below_grows a x y x' y' hx hy hs ht
  have hxo := hx; have hyo := hy
  unfold Ok at hx hy hx' hy'
  unfold Sub at hs ht
  have shr : Sub (shrT x y) (shrT x' y') := by
    unfold Sub shrT
    exact ⟨shr_mono _ _ _ _ (by omega) (by omega) (by omega), shr_mono _ _ _ _ (by omega) (by omega) (by omega)⟩
  by_cases h5 : op = 5
  · subst h5; unfold tab; rw [if_pos rfl, if_pos rfl]; unfold Sub; dsimp only; omega
  by_cases h8 : op = 8
  · subst h8
    have e : ∀ u v, tab 8 a u v = addT a u v := fun u v => rfl
    rw [e] at hbd; rw [e, e]
    by_cases g1 : x'.2 + y'.2 ≤ msk a
    · unfold addT; rw [if_pos g1, if_pos (by omega)]; unfold Sub; dsimp only; omega
    by_cases g2 : msk a < x'.1 + y'.1
    · unfold addT; rw [if_neg g1, if_pos g2, if_neg (by omega), if_pos (by omega)]; unfold Sub; dsimp only; omega
    · rw [show addT a x' y' = whole a by unfold addT; rw [if_neg g1, if_neg g2]]; exact sub_whole a _ hbd
  by_cases h9 : op = 9
  · subst h9
    have e : ∀ u v, tab 9 a u v = subT a u v := fun u v => rfl
    rw [e] at hbd; rw [e, e]
    by_cases g1 : y'.2 ≤ x'.1
    · unfold subT; rw [if_pos g1, if_pos (by omega)]; unfold Sub; dsimp only; omega
    by_cases g2 : x'.2 < y'.1
    · unfold subT; rw [if_neg g1, if_pos g2, if_neg (by omega), if_pos (by omega)]; unfold Sub; dsimp only; omega
    · rw [show subT a x' y' = whole a by unfold subT; rw [if_neg g1, if_neg g2]]; exact sub_whole a _ hbd
  by_cases h10 : op = 10
  · subst h10
    have e : ∀ u v, tab 10 a u v = mulT a u v := fun u v => rfl
    rw [e] at hbd; rw [e, e]
    have e1 := mul_mono x'.1 x.1 y'.1 y.1 (by omega) (by omega) (by omega) (by omega)
    have e2 := mul_mono x.2 x'.2 y.2 y'.2 (by omega) (by omega) (by omega) (by omega)
    by_cases g1 : x'.2 * y'.2 ≤ msk a
    · unfold mulT; rw [if_pos g1, if_pos (by omega)]; exact ⟨e1, e2⟩
    · rw [show mulT a x' y' = whole a by unfold mulT; rw [if_neg g1]]; exact sub_whole a _ hbd
  by_cases h11 : op = 11
  · subst h11
    have e : ∀ u v, tab 11 a u v = divT a u v := fun u v => rfl
    rw [e] at hbd; rw [e, e]
    by_cases g1 : y'.1 = 0
    · rw [show divT a x' y' = whole a by unfold divT; rw [if_pos g1]]; exact sub_whole a _ hbd
    · unfold divT; rw [if_neg g1, if_neg (by omega)]
      exact ⟨div_mono _ _ _ _ (by omega) (by omega) (by omega) (by omega), div_mono _ _ _ _ (by omega) (by omega) (by omega) (by omega)⟩
  by_cases h12 : op = 12
  · subst h12
    have e : ∀ u v, tab 12 a u v = remT u v := fun u v => rfl
    rw [e, e]
    by_cases g1 : x'.2 < y'.1
    · unfold remT; rw [if_pos g1, if_pos (by omega)]; exact hs
    by_cases g2 : y'.1 = 0
    · have e1 : remT x' y' = (0, x'.2) := by unfold remT; rw [if_neg g1, if_pos g2]
      rw [e1]; unfold remT Sub; split
      · dsimp only; omega
      · split <;> (dsimp only; omega)
    · have e1 : remT x' y' = (0, min x'.2 (y'.2 - 1)) := by unfold remT; rw [if_neg g1, if_neg g2]
      rw [e1]; unfold remT Sub; split
      · dsimp only; omega
      · rw [if_neg (by omega)]; dsimp only; omega
  by_cases h13 : op = 13
  · subst h13
    have e : ∀ u v : S, tab 13 a u v = (0, min u.2 v.2) := fun u v => rfl
    rw [e, e]; unfold Sub; dsimp only; omega
  by_cases h14 : op = 14
  · subst h14
    have e : ∀ u v : S, tab 14 a u v = (max u.1 v.1, ones (max u.2 v.2)) := fun u v => rfl
    rw [e, e]
    have := ones_mono a (max x.2 y.2) (max x'.2 y'.2) (by omega) (by omega) (by omega)
    unfold Sub; dsimp only; omega
  by_cases h15 : op = 15
  · subst h15
    have e : ∀ u v : S, tab 15 a u v = (0, ones (max u.2 v.2)) := fun u v => rfl
    rw [e, e]
    have := ones_mono a (max x.2 y.2) (max x'.2 y'.2) (by omega) (by omega) (by omega)
    unfold Sub; dsimp only; omega
  by_cases h16 : op = 16
  · subst h16
    have e : ∀ u v, tab 16 a u v = shlT a u v := fun u v => rfl
    rw [e] at hbd; rw [e, e]
    have m1 : pw y'.1.toNat ≤ pw y.1.toNat := pw_mono (by omega)
    have m2 : pw y.2.toNat ≤ pw y'.2.toNat := pw_mono (by omega)
    have e1 := mul_mono x'.1 x.1 _ _ (by omega) (by omega) (Int.le_of_lt (pw_pos _)) m1
    have e2 := mul_mono x.2 x'.2 _ _ (by omega) (by omega) (Int.le_of_lt (pw_pos _)) m2
    by_cases g1 : y'.2 < wid a ∧ x'.2 * pw y'.2.toNat ≤ msk a
    · unfold shlT; rw [if_pos g1, if_pos ⟨by omega, by omega⟩]; exact ⟨e1, e2⟩
    · rw [show shlT a x' y' = whole a by unfold shlT; rw [if_neg g1]]; exact sub_whole a _ hbd
  by_cases h17 : op = 17
  · subst h17
    have e : ∀ u v, tab 17 a u v = shrT u v := fun u v => rfl
    rw [e, e]; exact shr
  by_cases h18 : op = 18
  · subst h18
    have e : ∀ u v, tab 18 a u v = sarT a u v := fun u v => rfl
    rw [e] at hbd; rw [e, e]
    by_cases g1 : x'.2 < hib a
    · unfold sarT; rw [if_pos g1, if_pos (by omega)]; exact shr
    · rw [show sarT a x' y' = whole a by unfold sarT; rw [if_neg g1]]; exact sub_whole a _ hbd
  by_cases h19 : op = 19
  · subst h19
    have e : ∀ u v, tab 19 a u v = eqT u v := fun u v => rfl
    rw [e, e]
    by_cases g1 : x'.2 < y'.1 ∨ y'.2 < x'.1
    · unfold eqT; rw [if_pos g1, if_pos (by omega)]; unfold Sub; decide
    · rw [show eqT x' y' = (0, 1) by unfold eqT; rw [if_neg g1]]; unfold eqT; split <;> (unfold Sub; decide)
  by_cases h20 : op = 20
  · subst h20
    have e : ∀ u v, tab 20 a u v = less u v := fun u v => rfl
    rw [e, e]; exact hgl
  by_cases h21 : op = 21
  · subst h21
    have e : ∀ u v, tab 21 a u v = below a u v := fun u v => rfl
    rw [e, e]; exact hgb
  have e : ∀ u v, tab op a u v = (0, 0) := fun u v => by
    unfold tab; rw [if_neg h5, if_neg h8, if_neg h9, if_neg h10, if_neg h11, if_neg h12, if_neg h13, if_neg h14, if_neg h15, if_neg h16, if_neg h17, if_neg h18, if_neg h19, if_neg h20, if_neg h21]
  rw [e, e]; unfold Sub; decide
theorem ap_grows (op a : Int) (x y x' y' : S) (hx : Ok a x) (hy : Ok a y) (hx' : Ok a x') (hy' : Ok a y') (hs : Sub x x') (ht : Sub y y') : Sub (ap op a x y) (ap op a x' y') := by
  by_cases h' : x'.1 = x'.2 ∧ y'.1 = y'.2
  · have e1 : x = x' := by
      have := hx.2.1; have := hs.1; have := hs.2
      exact Prod.ext (by omega) (by omega)
    have e2 : y = y' := by
      have := hy.2.1; have := ht.1; have := ht.2
      exact Prod.ext (by omega) (by omega)
    rw [e1, e2]; exact ⟨Int.le_refl _, Int.le_refl _⟩
  have e' : ap op a x' y' = tab op a x' y' := by unfold ap; rw [if_neg h']
  rw [e']
  by_cases h : x.1 = x.2 ∧ y.1 = y.2
  · have e : ap op a x y = (app op a x.1 y.1, app op a x.1 y.1) := by unfold ap; rw [if_pos h]
    rw [e]
    have := in_tab op a x' y' hx' hy' x.1 y.1 ⟨hs.1, Int.le_trans hx.2.1 hs.2⟩ ⟨ht.1, Int.le_trans hy.2.1 ht.2⟩
    exact this
  · have e : ap op a x y = tab op a x y := by unfold ap; rw [if_neg h]
    rw [e]; exact tab_grows op a x y x' y' hx hy hx' hy' hs ht

end Go.Proofs.Ytbjckcjfambpoaa.Sn
