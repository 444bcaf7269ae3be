/-
  Plain arithmetic: what the bit-by-bit answers of the reference come to, as numbers.
-/
import Derived.Test.YtmdopndlnnapiaaR4
import Derived.Test.YtmdopndlnnapiaaR8
import Derived.Test.YtmdopndlnnapiaaPlain2
namespace Go.Proofs.Ytmdopndlnnapiaa
namespace Wb

theorem val_bit (f : Nat → Bool) : ∀ k i, (val f k).testBit i = (decide (i < k) && f i)
  | 0, i => by simp [val]
  | k + 1, i => by
    have hl := val_lt f k
    have ih := val_bit f k i
    rw [val]
    by_cases h : f k = true
    · rw [if_pos h, Nat.add_comm]
      rcases Nat.lt_trichotomy i k with hi | hi | hi
      · rw [Nat.testBit_two_pow_add_gt hi, ih]; simp [hi]; omega
      · subst hi; rw [Nat.testBit_two_pow_add_eq, ih]; simp [h]
      · have : 2 ^ k + val f k < 2 ^ i := by
          have : 2 ^ (k + 1) ≤ 2 ^ i := Nat.pow_le_pow_right (by decide) (by omega)
          rw [Nat.pow_succ] at this; omega
        rw [Nat.testBit_lt_two_pow this, show decide (i < k + 1) = false from by simp; omega]; rfl
    · rw [if_neg h, Nat.add_zero, ih]
      by_cases e : i = k
      · subst e; simp at h; simp [h]
      · congr 1; simp; omega
theorem val_half (f : Nat → Bool) (n k : Nat) (h : k < n) : val f n / 2 ^ k = 2 * (val f n / 2 ^ (k + 1)) + (if f k then 1 else 0) := by
  have hb := val_bit f n k
  rw [Nat.testBit_eq_decide_div_mod_eq] at hb
  have e : val f n / 2 ^ (k + 1) = val f n / 2 ^ k / 2 := by rw [Nat.div_div_eq_div_mul, Nat.pow_succ]
  rw [e]
  generalize val f n / 2 ^ k = t at *
  have hk : decide (k < n) = true := by simpa using h
  rw [hk, Bool.true_and] at hb
  split
  · rename_i hf; rw [hf] at hb; have := of_decide_eq_true hb; omega
  · rename_i hf
    have hf' : f k = false := by simpa using hf
    rw [hf'] at hb; have := of_decide_eq_false hb; omega
theorem top_bit (f : Nat → Bool) (n : Nat) (h1 : 1 ≤ n) : f (n - 1) = decide (2 ^ (n - 1) ≤ val f n) := by
  obtain ⟨m, rfl⟩ : ∃ m, n = m + 1 := ⟨n - 1, by omega⟩
  have := val_lt f m
  rw [Nat.add_sub_cancel, val]
  cases f m <;> simp <;> omega
theorem val_truth (b : Bool) : val (upd off 0 b) 64 = if b then 1 else 0 := by
  have h : Sup 1 (upd off 0 b) := fun i hi => by unfold upd; rw [if_neg (by omega)]; rfl
  have := val_sup h 63
  rw [this]
  cases b <;> rfl
theorem val_upd {f : Nat → Bool} {i : Nat} (hf : f i = false) : ∀ n, i < n → val (upd f i true) n = val f n + 2 ^ i
  | 0, h => by omega
  | n + 1, h => by
    rw [val, val]
    by_cases e : i = n
    · subst e
      have : val (upd f i true) i = val f i := val_congr i (fun j hj => by unfold upd; rw [if_neg (by omega)])
      rw [this, hf]; simp [upd]
    · rw [val_upd hf n (by omega), show upd f i true n = f n from by unfold upd; rw [if_neg (fun q => e q.symm)]]; omega

/-! ### Mul, moved -/
theorem val_mulX (n : Nat) (f : Nat → Bool) (h1 : 1 ≤ n) : ∀ k, val (mulX n f k) n = (val f n * 2 ^ k) % 2 ^ n
  | 0 => by rw [mulX, Nat.pow_zero, Nat.mul_one, Nat.mod_eq_of_lt (val_lt f n)]
  | k + 1 => by
    rw [mulX, val_upB n _ _ h1, val_mulX n f h1 k]
    simp only [Bool.false_eq_true, if_false, Nat.add_zero]
    rw [Nat.mul_mod, Nat.mod_mod, ← Nat.mul_mod, Nat.pow_succ]
    congr 1
    rw [Nat.mul_comm 2, Nat.mul_assoc]
theorem val_mulO (n : Nat) (f g : Nat → Bool) (h1 : 1 ≤ n) : ∀ k, val (mulO n f g k) n = (val f n * val g k) % 2 ^ n
  | 0 => by rw [mulO, val_off, val, Nat.mul_zero, Nat.zero_mod]
  | k + 1 => by
    rw [mulO, val]
    split
    · rw [val_addB, val_mulO n f g h1 k, val_mulX n f h1 k]
      simp only [Bool.false_eq_true, if_false, Nat.add_zero]
      rw [Nat.mul_add, ← Nat.add_mod]
    · rw [val_mulO n f g h1 k, Nat.add_zero]
theorem mulO_sup (n : Nat) (f g : Nat → Bool) : ∀ k, Sup n (mulO n f g k)
  | 0 => fun _ _ => rfl
  | k + 1 => by
    rw [mulO]; split
    · exact addB_sup _ _ _ _
    · exact mulO_sup n f g k
theorem val_movU (n : Nat) (f : Nat → Bool) (h1 : 1 ≤ n) : ∀ k, val (movU n f k) n = (val f n * 2 ^ k) % 2 ^ n
  | 0 => by rw [movU, Nat.pow_zero, Nat.mul_one, Nat.mod_eq_of_lt (val_lt f n)]
  | k + 1 => by
    rw [movU, val_upB n _ _ h1, val_movU n f h1 k]
    simp only [Bool.false_eq_true, if_false, Nat.add_zero]
    rw [Nat.mul_mod, Nat.mod_mod, ← Nat.mul_mod, Nat.pow_succ]
    congr 1
    rw [Nat.mul_comm 2, Nat.mul_assoc]
theorem movU_sup (n : Nat) (f : Nat → Bool) (h1 : 1 ≤ n) (hf : Sup n f) : ∀ k, Sup n (movU n f k)
  | 0 => hf
  | _ + 1 => upB_sup _ _ _ h1
theorem movD_sup (n : Nat) (f : Nat → Bool) (b : Bool) (hf : Sup n f) : ∀ k, Sup n (movD n f b k)
  | 0 => hf
  | _ + 1 => downB_sup _ _ _
theorem val_movD (n : Nat) (f : Nat → Bool) (b : Bool) (h1 : 1 ≤ n) : ∀ k, ((val (movD n f b k) n : Nat) : Int) = ((val f n : Nat) - (if b then ((2 ^ n : Nat) : Int) else 0)) / ((2 ^ k : Nat) : Int) + (if b then ((2 ^ n : Nat) : Int) else 0)
  | 0 => by rw [movD, Nat.pow_zero, Int.natCast_one, Int.ediv_one]; omega
  | k + 1 => by
    have ih := val_movD n f b h1 k
    rw [movD, val_downB n _ _ h1]
    generalize ((val f n : Nat) - (if b then ((2 ^ n : Nat) : Int) else 0) : Int) = s at *
    have e : s / ((2 ^ (k + 1) : Nat) : Int) = s / ((2 ^ k : Nat) : Int) / 2 := by
      rw [Int.ediv_ediv_of_nonneg (Int.natCast_nonneg _), Nat.pow_succ, Int.natCast_mul]; rfl
    rw [e]
    generalize s / ((2 ^ k : Nat) : Int) = t at *
    have hp : 2 ^ n = 2 ^ (n - 1) * 2 := by rw [← Nat.pow_succ]; congr 1; omega
    rw [hp] at ih ⊢
    generalize 2 ^ (n - 1) = p at *
    generalize val (movD n f b k) n = v at *
    cases b
    · simp only [Bool.false_eq_true, if_false] at ih ⊢; omega
    · simp only [if_true] at ih ⊢; omega

/-! ### Div -/
structure DvOk (n : Nat) (f g : Nat → Bool) (m : Nat) (q r : Nat → Bool) : Prop where
  rest : val r n = (val f n / 2 ^ (n - m)) % val g n
  quot : val q n = (val f n / 2 ^ (n - m)) / val g n * 2 ^ (n - m)
  low : ∀ i, i < n - m → q i = false
  supq : Sup n q
  supr : Sup n r
theorem dv_ok (n : Nat) (f g : Nat → Bool) (h1 : 1 ≤ n) (hy : 0 < val g n) : ∀ m, m ≤ n → DvOk n f g m (dv n f g m).1 (dv n f g m).2
  | 0, _ => by
    have e : val f n / 2 ^ n = 0 := Nat.div_eq_of_lt (val_lt f n)
    refine ⟨?_, ?_, fun _ _ => rfl, fun _ _ => rfl, fun _ _ => rfl⟩
    · rw [Nat.sub_zero, e, Nat.zero_mod]; exact val_off n
    · rw [Nat.sub_zero, e, Nat.zero_div, Nat.zero_mul]; exact val_off n
  | m + 1, hm => by
    have ih := dv_ok n f g h1 hy m (by omega)
    have hs := dv.eq_2 n f g m
    obtain ⟨e1, e2, e3, e4, e5⟩ := ih
    generalize (dv n f g m).1 = q at *
    generalize (dv n f g m).2 = r at *
    have hT := val_half f n (n - 1 - m) (by omega)
    rw [show n - 1 - m + 1 = n - m from by omega] at hT
    have hnm : n - (m + 1) = n - 1 - m := by omega
    have fin : ∀ q' r', val r' n = (val f n / 2 ^ (n - 1 - m)) % val g n → val q' n = (val f n / 2 ^ (n - 1 - m)) / val g n * 2 ^ (n - 1 - m) → (∀ i, i < n - 1 - m → q' i = false) → Sup n q' → Sup n r' → DvOk n f g (m + 1) q' r' :=
      fun q' r' a b c d e => ⟨by rw [hnm]; exact a, by rw [hnm]; exact b, by rw [hnm]; exact c, d, e⟩
    have hpow : 2 ^ (n - m) = 2 ^ (n - 1 - m) * 2 := by rw [← Nat.pow_succ]; congr 1; omega
    have hYlt := val_lt g n
    have hR : val r n < val g n := by rw [e1]; exact Nat.mod_lt _ hy
    have hov := top_bit r n h1
    have hup := val_upB n r (f (n - 1 - m)) h1
    have hpn : 2 ^ n = 2 ^ (n - 1) * 2 := by rw [← Nat.pow_succ]; congr 1; omega
    have hnot := val_notB n g
    have hadd := val_addB n (upB n r (f (n - 1 - m))) (notB n g) true
    have hqi := e3 (n - 1 - m) (by omega)
    have hupd := val_upd hqi n (by omega)
    have hb : (if f (n - 1 - m) = true then 1 else 0) ≤ 1 := by split <;> omega
    have hdm := Nat.div_add_mod (val f n / 2 ^ (n - m)) (val g n)
    rw [← e1] at hdm
    generalize (if f (n - 1 - m) = true then 1 else 0) = b at *
    generalize hTT : val f n / 2 ^ (n - m) = T at *
    generalize val f n / 2 ^ (n - 1 - m) = T' at *
    generalize val g n = Y at *
    generalize val r n = R at *
    have key : ((r (n - 1) || !decide (val (upB n r (f (n - 1 - m))) n < Y)) = true ↔ Y ≤ 2 * R + b) ∧ (Y ≤ 2 * R + b → val (addB n (upB n r (f (n - 1 - m))) (notB n g) true) n = 2 * R + b - Y) ∧ (¬ Y ≤ 2 * R + b → val (upB n r (f (n - 1 - m))) n = 2 * R + b) := by
      rw [hadd, hnot, hup, hov]
      simp only [if_true]
      by_cases ho : 2 ^ (n - 1) ≤ R
      · have e6 : (2 * R + b) % 2 ^ n = 2 * R + b - 2 ^ n := by
          rw [Nat.mod_eq_sub_mod (by omega), Nat.mod_eq_of_lt (by omega)]
        rw [e6]
        refine ⟨by simp [ho]; omega, fun _ => ?_, fun h => by omega⟩
        rw [show 2 * R + b - 2 ^ n + (2 ^ n - 1 - Y) + 1 = 2 * R + b - Y from by omega, Nat.mod_eq_of_lt (by omega)]
      · have e6 : (2 * R + b) % 2 ^ n = 2 * R + b := Nat.mod_eq_of_lt (by omega)
        rw [e6]
        refine ⟨by simp [ho], fun h => ?_, fun _ => rfl⟩
        rw [show 2 * R + b + (2 ^ n - 1 - Y) + 1 = (2 * R + b - Y) + 2 ^ n from by omega, Nat.add_mod_right, Nat.mod_eq_of_lt (by omega)]
    obtain ⟨k1, k2, k3⟩ := key
    have hT2 : T' = Y * (2 * (T / Y)) + (2 * R + b) := by
      rw [hT, ← Nat.mul_assoc, Nat.mul_comm Y 2, Nat.mul_assoc]; omega
    rw [hs]
    by_cases hc : Y ≤ 2 * R + b
    · rw [if_pos (k1.2 hc)]
      have hT3 : T' = (2 * R + b - Y) + Y * (2 * (T / Y) + 1) := by rw [hT2, Nat.mul_add, Nat.mul_one]; omega
      have d1 : T' / Y = 2 * (T / Y) + 1 := by
        rw [hT3, Nat.add_mul_div_left _ _ hy, Nat.div_eq_of_lt (by omega), Nat.zero_add]
      have d2 : T' % Y = 2 * R + b - Y := by
        rw [hT3, Nat.add_mul_mod_self_left, Nat.mod_eq_of_lt (by omega)]
      refine fin _ _ ?_ ?_ ?_ ?_ (addB_sup _ _ _ _)
      · show val (addB n (upB n r (f (n - 1 - m))) (notB n g) true) n = _
        rw [k2 hc, d2]
      · show val (upd q (n - 1 - m) true) n = _
        rw [hupd, e2, d1, hpow, Nat.add_mul, Nat.one_mul, Nat.mul_comm 2, Nat.mul_assoc, Nat.mul_comm 2 (2 ^ (n - 1 - m))]
      · intro i hi
        show upd q (n - 1 - m) true i = false
        unfold upd; rw [if_neg (by omega)]; exact e3 i (by omega)
      · intro i hi
        show upd q (n - 1 - m) true i = false
        unfold upd; rw [if_neg (by omega)]; exact e4 i hi
    · rw [if_neg (fun h => hc (k1.1 h))]
      have hT3 : T' = (2 * R + b) + Y * (2 * (T / Y)) := by rw [hT2]; omega
      have d1 : T' / Y = 2 * (T / Y) := by
        rw [hT3, Nat.add_mul_div_left _ _ hy, Nat.div_eq_of_lt (by omega), Nat.zero_add]
      have d2 : T' % Y = 2 * R + b := by
        rw [hT3, Nat.add_mul_mod_self_left, Nat.mod_eq_of_lt (by omega)]
      refine fin _ _ ?_ ?_ ?_ e4 (upB_sup _ _ _ h1)
      · show val (upB n r (f (n - 1 - m))) n = _
        rw [k3 hc, d2]
      · show val q n = _
        rw [e2, d1, hpow, Nat.mul_comm 2, Nat.mul_assoc, Nat.mul_comm 2 (2 ^ (n - 1 - m))]
      · intro i hi
        exact e3 i (by omega)
end Wb
end Go.Proofs.Ytmdopndlnnapiaa
