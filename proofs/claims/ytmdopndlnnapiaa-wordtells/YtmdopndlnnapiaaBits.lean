/-
  Plain arithmetic of rows of bits (functions from places to bools): what the bit-by-bit words of the reference come to. No Go in sight.
-/
namespace Go.Proofs.Ytmdopndlnnapiaa

def off (_ : Nat) : Bool := false
def upd (f : Nat → Bool) (j : Nat) (b : Bool) : Nat → Bool := fun i => if i = j then b else f i

namespace Wb
/-- The number of the lowest k bits. -/
def val (f : Nat → Bool) : Nat → Nat
  | 0 => 0
  | k + 1 => val f k + (if f k then 2 ^ k else 0)
/-- Nothing from n on. -/
def Sup (n : Nat) (f : Nat → Bool) : Prop := ∀ i, n ≤ i → f i = false

theorem val_lt (f : Nat → Bool) : ∀ k, val f k < 2 ^ k
  | 0 => by simp [val]
  | k + 1 => by
    have := val_lt f k
    rw [val, Nat.pow_succ]; split <;> omega
theorem val_congr {f g : Nat → Bool} : ∀ k, (∀ i, i < k → f i = g i) → val f k = val g k
  | 0, _ => rfl
  | k + 1, h => by rw [val, val, val_congr k (fun i hi => h i (by omega)), h k (by omega)]
theorem val_off : ∀ k, val off k = 0
  | 0 => rfl
  | k + 1 => by rw [val, val_off k]; simp [off]
theorem val_sup {n : Nat} {f : Nat → Bool} (h : Sup n f) : ∀ d, val f (n + d) = val f n
  | 0 => rfl
  | d + 1 => by
    rw [← Nat.add_assoc, val, val_sup h d, h (n + d) (by omega)]; simp
theorem val_sup64 {n : Nat} {f : Nat → Bool} (h : Sup n f) (h2 : n ≤ 64) : val f 64 = val f n := by
  have := val_sup h (64 - n); rw [show n + (64 - n) = 64 from by omega] at this; exact this
theorem val_inj {f g : Nat → Bool} : ∀ k, val f k = val g k → ∀ i, i < k → f i = g i
  | 0, _, i, hi => by omega
  | k + 1, h, i, hi => by
    have h1 := val_lt f k
    have h2 := val_lt g k
    rw [val, val] at h
    have hk : f k = g k := by
      cases hf : f k <;> cases hg : g k <;> simp [hf, hg] at h ⊢ <;> omega
    by_cases e : i = k
    · subst e; exact hk
    · rw [hk] at h
      exact val_inj k (by omega) i (by omega)

/-! ### Of -/
def ofB (n x : Nat) : Nat → Bool := fun i => decide (i < n) && x.testBit i
theorem ofB_sup (n x : Nat) : Sup n (ofB n x) := fun i h => by simp [ofB]; omega
theorem val_test (x : Nat) : ∀ k, val (fun i => x.testBit i) k = x % 2 ^ k
  | 0 => by simp [val, Nat.mod_one]
  | k + 1 => by
    rw [val, val_test x k, Nat.pow_succ, Nat.mod_mul, Nat.testBit_eq_decide_div_mod_eq]
    rcases Nat.mod_two_eq_zero_or_one (x / 2 ^ k) with h | h <;> simp [h]
theorem val_ofB (n x : Nat) : val (ofB n x) n = x % 2 ^ n := by
  rw [← val_test]; apply val_congr; intro i hi; simp [ofB, hi]
/-- As far as the loop has come. -/
def ofP (n x k : Nat) : Nat → Bool := fun i => decide (i < k) && ofB n x i
theorem ofP_zero (n x : Nat) : off = ofP n x 0 := by funext i; simp [off, ofP]
theorem ofP_succ (n x k : Nat) (b : Bool) (hb : b = ofB n x k) : upd (ofP n x k) k b = ofP n x (k + 1) := by
  funext i; unfold upd ofP
  by_cases h : i = k
  · subst h; simp [hb]
  · rw [if_neg h]; congr 1; simp; omega
theorem ofP_last (n x : Nat) (h : n ≤ 64) : ofP n x 64 = ofB n x := by
  funext i; unfold ofP ofB
  by_cases h1 : i < n
  · simp [h1]; omega
  · simp [h1]

/-! ### Num -/
def hor (f : Nat → Bool) : Nat → Nat
  | 0 => 0
  | m + 1 => 2 * hor f m + (if f (63 - m) then 1 else 0)
theorem hor_lt (f : Nat → Bool) : ∀ m, hor f m < 2 ^ m
  | 0 => by simp [hor]
  | m + 1 => by have := hor_lt f m; rw [hor, Nat.pow_succ]; split <;> omega
theorem hor_val (f : Nat → Bool) : ∀ m, m ≤ 64 → val f (64 - m) + 2 ^ (64 - m) * hor f m = val f 64
  | 0, _ => by simp [hor]
  | m + 1, h => by
    have ih := hor_val f m (by omega)
    rw [← ih, hor, show 64 - m = (63 - m) + 1 from by omega, val, show 64 - (m + 1) = 63 - m from by omega, Nat.pow_succ, Nat.mul_add]
    rw [Nat.mul_assoc (2 ^ (63 - m)) 2 (hor f m)]
    split <;> omega
theorem hor_all (f : Nat → Bool) : hor f 64 = val f 64 := by
  have := hor_val f 64 (Nat.le_refl _)
  generalize val f 64 = V at *
  simpa [val] using this
theorem hor_bd (f : Nat → Bool) (m : Nat) (h : m < 64) : hor f m < 9223372036854775808 := by
  have h1 := hor_lt f m
  have h2 : 2 ^ m ≤ 2 ^ 63 := Nat.pow_le_pow_right (by decide) (by omega)
  omega

/-! ### Not -/
def notB (n : Nat) (f : Nat → Bool) : Nat → Bool := fun i => decide (i < n) && !f i
theorem notB_sup (n : Nat) (f : Nat → Bool) : Sup n (notB n f) := fun i h => by simp [notB]; omega
theorem notB_zero (f : Nat → Bool) : off = notB 0 f := by funext i; simp [off, notB]
theorem notB_succ (f : Nat → Bool) (k : Nat) : upd (notB k f) k (!f k) = notB (k + 1) f := by
  funext i; unfold upd notB
  by_cases h : i = k
  · subst h; simp
  · rw [if_neg h]; congr 1; simp; omega
theorem val_notP (n : Nat) (f : Nat → Bool) : ∀ k, k ≤ n → val (notB n f) k + val f k + 1 = 2 ^ k
  | 0, _ => by simp [val]
  | k + 1, h => by
    have := val_notP n f k (by omega)
    rw [val, val, Nat.pow_succ]
    have e : notB n f k = !f k := by simp [notB]; omega
    rw [e]
    cases f k <;> simp <;> omega
theorem val_notB (n : Nat) (f : Nat → Bool) : val (notB n f) n = 2 ^ n - 1 - val f n := by
  have := val_notP n f n (Nat.le_refl _); omega

/-! ### Add -/
def car (f g : Nat → Bool) (c : Bool) : Nat → Bool
  | 0 => c
  | k + 1 => (f k && g k) || (f k && car f g c k) || (g k && car f g c k)
def addB (n : Nat) (f g : Nat → Bool) (c : Bool) : Nat → Bool := fun i => decide (i < n) && ((f i != g i) != car f g c i)
theorem addB_sup (n : Nat) (f g : Nat → Bool) (c : Bool) : Sup n (addB n f g c) := fun i h => by simp [addB]; omega
theorem addB_zero (f g : Nat → Bool) (c : Bool) : off = addB 0 f g c := by funext i; simp [off, addB]
theorem addB_succ (f g : Nat → Bool) (c : Bool) (k : Nat) (b : Bool) (hb : b = ((f k != g k) != car f g c k)) : upd (addB k f g c) k b = addB (k + 1) f g c := by
  funext i; unfold upd addB
  by_cases h : i = k
  · subst h; simp [hb]
  · rw [if_neg h]; congr 1; simp; omega
theorem val_addP (n : Nat) (f g : Nat → Bool) (c : Bool) : ∀ k, k ≤ n → val (addB n f g c) k + (if car f g c k then 2 ^ k else 0) = val f k + val g k + (if c then 1 else 0)
  | 0, _ => by cases c <;> simp [val, car]
  | k + 1, h => by
    have := val_addP n f g c k (by omega)
    rw [val, val, val, car, Nat.pow_succ]
    have e : addB n f g c k = ((f k != g k) != car f g c k) := by simp [addB]; omega
    rw [e]
    cases hf : f k <;> cases hg : g k <;> cases hc : car f g c k <;> simp [hc] at this ⊢ <;> omega
theorem val_addB (n : Nat) (f g : Nat → Bool) (c : Bool) : val (addB n f g c) n = (val f n + val g n + (if c then 1 else 0)) % 2 ^ n := by
  have h := val_addP n f g c n (Nat.le_refl _)
  have h1 := val_lt (addB n f g c) n
  rw [← h]
  split
  · rw [Nat.add_mod_right, Nat.mod_eq_of_lt h1]
  · rw [Nat.add_zero, Nat.mod_eq_of_lt h1]

/-! ### Up -/
def upB (n : Nat) (f : Nat → Bool) (b : Bool) : Nat → Bool := fun i => if i = 0 then b else decide (i < n) && f (i - 1)
theorem upB_sup (n : Nat) (f : Nat → Bool) (b : Bool) (h1 : 1 ≤ n) : Sup n (upB n f b) := fun i h => by
  unfold upB; rw [if_neg (by omega)]; simp; omega
/-- As far as the loop has come: places above k are written. -/
def upP (n : Nat) (f : Nat → Bool) (k : Nat) : Nat → Bool := fun i => decide (k < i) && (decide (i < n) && f (i - 1))
theorem upP_start (n : Nat) (f : Nat → Bool) (h1 : 1 ≤ n) : off = upP n f (n - 1) := by
  funext i; simp [off, upP]; omega
theorem upP_step (n : Nat) (f : Nat → Bool) (k : Nat) (h : k + 1 < n) : upd (upP n f (k + 1)) (k + 1) (f k) = upP n f k := by
  funext i; unfold upd upP
  by_cases e : i = k + 1
  · subst e; simp [h]
  · rw [if_neg e]; congr 1; simp; omega
theorem upP_last (n : Nat) (f : Nat → Bool) (b : Bool) : upd (upP n f 0) 0 b = upB n f b := by
  funext i; unfold upd upP upB
  by_cases e : i = 0
  · subst e; simp
  · rw [if_neg e, if_neg e]; simp; omega
theorem val_upP (n : Nat) (f : Nat → Bool) (b : Bool) : ∀ k, k + 1 ≤ n → val (upB n f b) (k + 1) = 2 * val f k + (if b then 1 else 0)
  | 0, _ => by simp [val, upB]
  | k + 1, h => by
    have := val_upP n f b k (by omega)
    rw [val, this, val]
    have e : upB n f b (k + 1) = f k := by unfold upB; rw [if_neg (by omega)]; simp; omega
    rw [e, Nat.pow_succ]; split <;> split <;> omega
theorem val_upB (n : Nat) (f : Nat → Bool) (b : Bool) (h1 : 1 ≤ n) : val (upB n f b) n = (2 * val f n + (if b then 1 else 0)) % 2 ^ n := by
  obtain ⟨m, rfl⟩ : ∃ m, n = m + 1 := ⟨n - 1, by omega⟩
  have h := val_upP (m + 1) f b m (Nat.le_refl _)
  have hl := val_lt (upB (m + 1) f b) (m + 1)
  rw [h] at hl
  rw [h, val]
  generalize (if b = true then 1 else 0) = t at *
  split
  · rw [show 2 * (val f m + 2 ^ m) + t = 2 * val f m + t + 2 ^ (m + 1) from by rw [Nat.pow_succ]; omega, Nat.add_mod_right, Nat.mod_eq_of_lt hl]
  · rw [Nat.add_zero, Nat.mod_eq_of_lt hl]

/-! ### Down -/
def downB (n : Nat) (f : Nat → Bool) (b : Bool) : Nat → Bool := fun i => if i + 1 = n then b else decide (i + 1 < n) && f (i + 1)
theorem downB_sup (n : Nat) (f : Nat → Bool) (b : Bool) : Sup n (downB n f b) := fun i h => by
  unfold downB; rw [if_neg (by omega)]; simp; omega
def downP (n : Nat) (f : Nat → Bool) (k : Nat) : Nat → Bool := fun i => decide (i < k) && (decide (i + 1 < n) && f (i + 1))
theorem downP_zero (n : Nat) (f : Nat → Bool) : off = downP n f 0 := by funext i; simp [off, downP]
theorem downP_succ (n : Nat) (f : Nat → Bool) (k : Nat) (h : k + 1 < n) : upd (downP n f k) k (f (k + 1)) = downP n f (k + 1) := by
  funext i; unfold upd downP
  by_cases e : i = k
  · subst e; simp [h]
  · rw [if_neg e]; congr 1; simp; omega
theorem downP_last (n : Nat) (f : Nat → Bool) (b : Bool) (h1 : 1 ≤ n) : upd (downP n f (n - 1)) (n - 1) b = downB n f b := by
  funext i; unfold upd downP downB
  by_cases e : i = n - 1
  · rw [if_pos e, if_pos (by omega)]
  · rw [if_neg e, if_neg (by omega)]
    by_cases h : i + 1 < n
    · simp [h]; omega
    · simp [h]
theorem val_downP (n : Nat) (f : Nat → Bool) (b : Bool) : ∀ k, k + 1 ≤ n → 2 * val (downB n f b) k + (if f 0 then 1 else 0) = val f (k + 1)
  | 0, _ => by simp [val]
  | k + 1, h => by
    have := val_downP n f b k (by omega)
    rw [val, val, ← this]
    have e : downB n f b k = f (k + 1) := by unfold downB; rw [if_neg (by omega)]; simp; omega
    rw [e, Nat.pow_succ]; split <;> split <;> omega
theorem val_downB (n : Nat) (f : Nat → Bool) (b : Bool) (h1 : 1 ≤ n) : val (downB n f b) n = val f n / 2 + (if b then 2 ^ (n - 1) else 0) := by
  obtain ⟨m, rfl⟩ : ∃ m, n = m + 1 := ⟨n - 1, by omega⟩
  have h := val_downP (m + 1) f b m (Nat.le_refl _)
  have e : downB (m + 1) f b m = b := by unfold downB; rw [if_pos rfl]
  rw [val, e, Nat.add_sub_cancel]
  congr 1
  split at h <;> omega

/-! ### Less -/
theorem val_less (f g : Nat → Bool) (n k : Nat) (hk : k < n) (heq : ∀ j, k < j → j < n → f j = g j) (hne : f k ≠ g k) : g k = decide (val f n < val g n) := by
  have key : ∀ d, k + 1 + d ≤ n → g k = decide (val f (k + 1 + d) < val g (k + 1 + d)) := by
    intro d
    induction d with
    | zero =>
      intro _
      have h1 := val_lt f k
      have h2 := val_lt g k
      rw [Nat.add_zero, val, val]
      cases hf : f k <;> cases hg : g k <;> simp_all <;> omega
    | succ d ih =>
      intro h
      rw [ih (by omega), ← Nat.add_assoc, val, val, heq (k + 1 + d) (by omega) (by omega)]
      congr 1; rw [eq_iff_iff]; omega
  have := key (n - (k + 1)) (by omega)
  rw [show k + 1 + (n - (k + 1)) = n from by omega] at this; exact this

/-! ### bit by bit -/
def bitB (n : Nat) (o : Bool → Bool → Bool) (f g : Nat → Bool) : Nat → Bool := fun i => decide (i < n) && o (f i) (g i)
theorem bitB_sup (n : Nat) (o : Bool → Bool → Bool) (f g : Nat → Bool) : Sup n (bitB n o f g) := fun i h => by simp [bitB]; omega
theorem bitB_zero (o : Bool → Bool → Bool) (f g : Nat → Bool) : off = bitB 0 o f g := by funext i; simp [off, bitB]
theorem bitB_succ (o : Bool → Bool → Bool) (f g : Nat → Bool) (k : Nat) : upd (bitB k o f g) k (o (f k) (g k)) = bitB (k + 1) o f g := by
  funext i; unfold upd bitB
  by_cases h : i = k
  · subst h; simp
  · rw [if_neg h]; congr 1; simp; omega
end Wb
end Go.Proofs.Ytmdopndlnnapiaa
