/-
  The contract of the laws' own examples (awake), and what the laws want of the plain arithmetic.
  The contracts of the laws' own closures, and two small words for the walk.
  Plain arithmetic of rows of bits (functions from places to bools): what the bit-by-bit words of the reference come to. No Go in sight.
  Blocks that hold 64 bools, as functions from places to bools; the steps of a walk that load and store them whole.
  Contracts of the reference's words: Width, Not, Of, Num.
  Contracts of the reference's words: Add, Up, Down, Less, truth, far.
  Contracts of the reference's words: Mul, moved.
  Contracts of the reference's words: bitwise.
-/
import Derived.Test.YtbjckcjfambpoaaWdW2
import Derived.Deep.WholeRow
import Derived.Deep.Cut
import Derived.BigRegion
set_option linter.unusedSimpArgs false
set_option linter.unusedVariables false
namespace Go.Proofs.Ytbjckcjfambpoaa
set_option linter.unusedSimpArgs false
set_option linter.unusedVariables false
set_option maxRecDepth 100000
open Go.RowKit

theorem grown_drewN {W w' : World} (h : Grown W w') (n : Nat) : Grown W (w'.drewN n) := h
end Go.Proofs.Ytbjckcjfambpoaa
namespace Go.Proofs.Ytbjckcjfambpoaa
set_option linter.unusedSimpArgs false
set_option linter.unusedVariables false
set_option maxRecDepth 100000
open Go.RowKit

/-- A world is forgotten but for what is asked of it. -/
theorem gen_world {S : World → Prop} {P : Program} {c : Code} {Q : Exit → Act → World → Prop} {a : Act} {w : World} (h : S w) (k : ∀ W, S W → Code.wp P c Q a W) : Code.wp P c Q a w := k w h
/-- A callee that leaves the world alone, met in a quiet region. -/
theorem quiet_same {P : Program} {f : FuncId} {args : Array Value} {w : World} {n : Nat} {v : Value}
    (h : Calls P f args (w.drewN n) fun e w' => e = .returned v ∧ w.drewN n = w') : Calls P f args (w.drewN n) fun e w'' => e = .returned v ∧ ∃ m, w'' = w.drewN m :=
  h.mono fun _ _ ⟨he, hm⟩ => ⟨he, n, hm.symm⟩

end Go.Proofs.Ytbjckcjfambpoaa
namespace Go.Proofs.Ytbjckcjfambpoaa
set_option linter.unusedSimpArgs false
set_option linter.unusedVariables false
set_option maxRecDepth 100000

def off (_ : Nat) : Bool := false
def upd (f : Nat → Bool) (j : Nat) (b : Bool) : Nat → Bool := fun i => if i = j then b else f i

namespace Wb
/-- The number of the lowest k bits. -/
def val (f : Nat → Bool) : Nat → Nat
  | 0 => 0
  | k + 1 => val f k + (if f k then 2 ^ k else 0)
/-- Nothing from n on. -/
def Sup (n : Nat) (f : Nat → Bool) : Prop := ∀ i, n ≤ i → f i = false

theorem val_lt (f : Nat → Bool) : ∀ k, val f k < 2 ^ k
  | 0 => by simp [val]
  | k + 1 => by
    have := val_lt f k
    rw [val, Nat.pow_succ]; split <;> omega
theorem val_congr {f g : Nat → Bool} : ∀ k, (∀ i, i < k → f i = g i) → val f k = val g k
  | 0, _ => rfl
  | k + 1, h => by rw [val, val, val_congr k (fun i hi => h i (by omega)), h k (by omega)]
theorem val_off : ∀ k, val off k = 0
  | 0 => rfl
  | k + 1 => by rw [val, val_off k]; simp [off]
theorem val_sup {n : Nat} {f : Nat → Bool} (h : Sup n f) : ∀ d, val f (n + d) = val f n
  | 0 => rfl
  | d + 1 => by
    rw [← Nat.add_assoc, val, val_sup h d, h (n + d) (by omega)]; simp
theorem val_sup64 {n : Nat} {f : Nat → Bool} (h : Sup n f) (h2 : n ≤ 64) : val f 64 = val f n := by
  have := val_sup h (64 - n); rw [show n + (64 - n) = 64 from by omega] at this; exact this
theorem val_inj {f g : Nat → Bool} : ∀ k, val f k = val g k → ∀ i, i < k → f i = g i
  | 0, _, i, hi => by omega
  | k + 1, h, i, hi => by
    have h1 := val_lt f k
    have h2 := val_lt g k
    rw [val, val] at h
    have hk : f k = g k := by
      cases hf : f k <;> cases hg : g k <;> simp [hf, hg] at h ⊢ <;> omega
    by_cases e : i = k
    · subst e; exact hk
    · rw [hk] at h
      exact val_inj k (by omega) i (by omega)

/-! ### Of -/
def ofB (n x : Nat) : Nat → Bool := fun i => decide (i < n) && x.testBit i
theorem ofB_sup (n x : Nat) : Sup n (ofB n x) := fun i h => by simp [ofB]; omega
theorem val_test (x : Nat) : ∀ k, val (fun i => x.testBit i) k = x % 2 ^ k
  | 0 => by simp [val, Nat.mod_one]
  | k + 1 => by
    rw [val, val_test x k, Nat.pow_succ, Nat.mod_mul, Nat.testBit_eq_decide_div_mod_eq]
    rcases Nat.mod_two_eq_zero_or_one (x / 2 ^ k) with h | h <;> simp [h]
theorem val_ofB (n x : Nat) : val (ofB n x) n = x % 2 ^ n := by
  rw [← val_test]; apply val_congr; intro i hi; simp [ofB, hi]
/-- As far as the loop has come. -/
def ofP (n x k : Nat) : Nat → Bool := fun i => decide (i < k) && ofB n x i
theorem ofP_zero (n x : Nat) : off = ofP n x 0 := by funext i; simp [off, ofP]
theorem ofP_succ (n x k : Nat) (b : Bool) (hb : b = ofB n x k) : upd (ofP n x k) k b = ofP n x (k + 1) := by
  funext i; unfold upd ofP
  by_cases h : i = k
  · subst h; simp [hb]
  · rw [if_neg h]; congr 1; simp; omega
theorem ofP_last (n x : Nat) (h : n ≤ 64) : ofP n x 64 = ofB n x := by
  funext i; unfold ofP ofB
  by_cases h1 : i < n
  · simp [h1]; omega
  · simp [h1]

/-! ### Num -/
def hor (f : Nat → Bool) : Nat → Nat
  | 0 => 0
  | m + 1 => 2 * hor f m + (if f (63 - m) then 1 else 0)
theorem hor_lt (f : Nat → Bool) : ∀ m, hor f m < 2 ^ m
  | 0 => by simp [hor]
  | m + 1 => by have := hor_lt f m; rw [hor, Nat.pow_succ]; split <;> omega
theorem hor_val (f : Nat → Bool) : ∀ m, m ≤ 64 → val f (64 - m) + 2 ^ (64 - m) * hor f m = val f 64
  | 0, _ => by simp [hor]
  | m + 1, h => by
    have ih := hor_val f m (by omega)
    rw [← ih, hor, show 64 - m = (63 - m) + 1 from by omega, val, show 64 - (m + 1) = 63 - m from by omega, Nat.pow_succ, Nat.mul_add]
    rw [Nat.mul_assoc (2 ^ (63 - m)) 2 (hor f m)]
    split <;> omega
theorem hor_all (f : Nat → Bool) : hor f 64 = val f 64 := by
  have := hor_val f 64 (Nat.le_refl _)
  generalize val f 64 = V at *
  simpa [val] using this
theorem hor_bd (f : Nat → Bool) (m : Nat) (h : m < 64) : hor f m < 9223372036854775808 := by
  have h1 := hor_lt f m
  have h2 : 2 ^ m ≤ 2 ^ 63 := Nat.pow_le_pow_right (by decide) (by omega)
  omega

/-! ### Not -/
def notB (n : Nat) (f : Nat → Bool) : Nat → Bool := fun i => decide (i < n) && !f i
theorem notB_sup (n : Nat) (f : Nat → Bool) : Sup n (notB n f) := fun i h => by simp [notB]; omega
theorem notB_zero (f : Nat → Bool) : off = notB 0 f := by funext i; simp [off, notB]
theorem notB_succ (f : Nat → Bool) (k : Nat) : upd (notB k f) k (!f k) = notB (k + 1) f := by
  funext i; unfold upd notB
  by_cases h : i = k
  · subst h; simp
  · rw [if_neg h]; congr 1; simp; omega
theorem val_notP (n : Nat) (f : Nat → Bool) : ∀ k, k ≤ n → val (notB n f) k + val f k + 1 = 2 ^ k
  | 0, _ => by simp [val]
  | k + 1, h => by
    have := val_notP n f k (by omega)
    rw [val, val, Nat.pow_succ]
    have e : notB n f k = !f k := by simp [notB]; omega
    rw [e]
    cases f k <;> simp <;> omega
theorem val_notB (n : Nat) (f : Nat → Bool) : val (notB n f) n = 2 ^ n - 1 - val f n := by
  have := val_notP n f n (Nat.le_refl _); omega

/-! ### Add -/
def car (f g : Nat → Bool) (c : Bool) : Nat → Bool
  | 0 => c
  | k + 1 => (f k && g k) || (f k && car f g c k) || (g k && car f g c k)
def addB (n : Nat) (f g : Nat → Bool) (c : Bool) : Nat → Bool := fun i => decide (i < n) && ((f i != g i) != car f g c i)
theorem addB_sup (n : Nat) (f g : Nat → Bool) (c : Bool) : Sup n (addB n f g c) := fun i h => by simp [addB]; omega
theorem addB_zero (f g : Nat → Bool) (c : Bool) : off = addB 0 f g c := by funext i; simp [off, addB]
theorem addB_succ (f g : Nat → Bool) (c : Bool) (k : Nat) (b : Bool) (hb : b = ((f k != g k) != car f g c k)) : upd (addB k f g c) k b = addB (k + 1) f g c := by
  funext i; unfold upd addB
  by_cases h : i = k
  · subst h; simp [hb]
  · rw [if_neg h]; congr 1; simp; omega
theorem val_addP (n : Nat) (f g : Nat → Bool) (c : Bool) : ∀ k, k ≤ n → val (addB n f g c) k + (if car f g c k then 2 ^ k else 0) = val f k + val g k + (if c then 1 else 0)
  | 0, _ => by cases c <;> simp [val, car]
  | k + 1, h => by
    have := val_addP n f g c k (by omega)
    rw [val, val, val, car, Nat.pow_succ]
    have e : addB n f g c k = ((f k != g k) != car f g c k) := by simp [addB]; omega
    rw [e]
    cases hf : f k <;> cases hg : g k <;> cases hc : car f g c k <;> simp [hc] at this ⊢ <;> omega
theorem val_addB (n : Nat) (f g : Nat → Bool) (c : Bool) : val (addB n f g c) n = (val f n + val g n + (if c then 1 else 0)) % 2 ^ n := by
  have h := val_addP n f g c n (Nat.le_refl _)
  have h1 := val_lt (addB n f g c) n
  rw [← h]
  split
  · rw [Nat.add_mod_right, Nat.mod_eq_of_lt h1]
  · rw [Nat.add_zero, Nat.mod_eq_of_lt h1]

/-! ### Up -/
def upB (n : Nat) (f : Nat → Bool) (b : Bool) : Nat → Bool := fun i => if i = 0 then b else decide (i < n) && f (i - 1)
theorem upB_sup (n : Nat) (f : Nat → Bool) (b : Bool) (h1 : 1 ≤ n) : Sup n (upB n f b) := fun i h => by
  unfold upB; rw [if_neg (by omega)]; simp; omega
/-- As far as the loop has come: places above k are written. -/
def upP (n : Nat) (f : Nat → Bool) (k : Nat) : Nat → Bool := fun i => decide (k < i) && (decide (i < n) && f (i - 1))
theorem upP_start (n : Nat) (f : Nat → Bool) (h1 : 1 ≤ n) : off = upP n f (n - 1) := by
  funext i; simp [off, upP]; omega
theorem upP_step (n : Nat) (f : Nat → Bool) (k : Nat) (h : k + 1 < n) : upd (upP n f (k + 1)) (k + 1) (f k) = upP n f k := by
  funext i; unfold upd upP
  by_cases e : i = k + 1
  · subst e; simp [h]
  · rw [if_neg e]; congr 1; simp; omega
theorem upP_last (n : Nat) (f : Nat → Bool) (b : Bool) : upd (upP n f 0) 0 b = upB n f b := by
  funext i; unfold upd upP upB
  by_cases e : i = 0
  · subst e; simp
  · rw [if_neg e, if_neg e]; simp; omega
theorem val_upP (n : Nat) (f : Nat → Bool) (b : Bool) : ∀ k, k + 1 ≤ n → val (upB n f b) (k + 1) = 2 * val f k + (if b then 1 else 0)
  | 0, _ => by simp [val, upB]
  | k + 1, h => by
    have := val_upP n f b k (by omega)
    rw [val, this, val]
    have e : upB n f b (k + 1) = f k := by unfold upB; rw [if_neg (by omega)]; simp; omega
    rw [e, Nat.pow_succ]; split <;> split <;> omega
theorem val_upB (n : Nat) (f : Nat → Bool) (b : Bool) (h1 : 1 ≤ n) : val (upB n f b) n = (2 * val f n + (if b then 1 else 0)) % 2 ^ n := by
  obtain ⟨m, rfl⟩ : ∃ m, n = m + 1 := ⟨n - 1, by omega⟩
  have h := val_upP (m + 1) f b m (Nat.le_refl _)
  have hl := val_lt (upB (m + 1) f b) (m + 1)
  rw [h] at hl
  rw [h, val]
  generalize (if b = true then 1 else 0) = t at *
  split
  · rw [show 2 * (val f m + 2 ^ m) + t = 2 * val f m + t + 2 ^ (m + 1) from by rw [Nat.pow_succ]; omega, Nat.add_mod_right, Nat.mod_eq_of_lt hl]
  · rw [Nat.add_zero, Nat.mod_eq_of_lt hl]

/-! ### Down -/
def downB (n : Nat) (f : Nat → Bool) (b : Bool) : Nat → Bool := fun i => if i + 1 = n then b else decide (i + 1 < n) && f (i + 1)
theorem downB_sup (n : Nat) (f : Nat → Bool) (b : Bool) : Sup n (downB n f b) := fun i h => by
  unfold downB; rw [if_neg (by omega)]; simp; omega
def downP (n : Nat) (f : Nat → Bool) (k : Nat) : Nat → Bool := fun i => decide (i < k) && (decide (i + 1 < n) && f (i + 1))
theorem downP_zero (n : Nat) (f : Nat → Bool) : off = downP n f 0 := by funext i; simp [off, downP]
theorem downP_succ (n : Nat) (f : Nat → Bool) (k : Nat) (h : k + 1 < n) : upd (downP n f k) k (f (k + 1)) = downP n f (k + 1) := by
  funext i; unfold upd downP
  by_cases e : i = k
  · subst e; simp [h]
  · rw [if_neg e]; congr 1; simp; omega
theorem downP_last (n : Nat) (f : Nat → Bool) (b : Bool) (h1 : 1 ≤ n) : upd (downP n f (n - 1)) (n - 1) b = downB n f b := by
  funext i; unfold upd downP downB
  by_cases e : i = n - 1
  · rw [if_pos e, if_pos (by omega)]
  · rw [if_neg e, if_neg (by omega)]
    by_cases h : i + 1 < n
    · simp [h]; omega
    · simp [h]
theorem val_downP (n : Nat) (f : Nat → Bool) (b : Bool) : ∀ k, k + 1 ≤ n → 2 * val (downB n f b) k + (if f 0 then 1 else 0) = val f (k + 1)
  | 0, _ => by simp [val]
  | k + 1, h => by
    have := val_downP n f b k (by omega)
    rw [val, val, ← this]
    have e : downB n f b k = f (k + 1) := by unfold downB; rw [if_neg (by omega)]; simp; omega
    rw [e, Nat.pow_succ]; split <;> split <;> omega
theorem val_downB (n : Nat) (f : Nat → Bool) (b : Bool) (h1 : 1 ≤ n) : val (downB n f b) n = val f n / 2 + (if b then 2 ^ (n - 1) else 0) := by
  obtain ⟨m, rfl⟩ : ∃ m, n = m + 1 := ⟨n - 1, by omega⟩
  have h := val_downP (m + 1) f b m (Nat.le_refl _)
  have e : downB (m + 1) f b m = b := by unfold downB; rw [if_pos rfl]
  rw [val, e, Nat.add_sub_cancel]
  congr 1
  split at h <;> omega

/-! ### Less -/
theorem val_less (f g : Nat → Bool) (n k : Nat) (hk : k < n) (heq : ∀ j, k < j → j < n → f j = g j) (hne : f k ≠ g k) : g k = decide (val f n < val g n) := by
  have key : ∀ d, k + 1 + d ≤ n → g k = decide (val f (k + 1 + d) < val g (k + 1 + d)) := by
    intro d
    induction d with
    | zero =>
      intro _
      have h1 := val_lt f k
      have h2 := val_lt g k
      rw [Nat.add_zero, val, val]
      cases hf : f k <;> cases hg : g k <;> simp_all <;> omega
    | succ d ih =>
      intro h
      rw [ih (by omega), ← Nat.add_assoc, val, val, heq (k + 1 + d) (by omega) (by omega)]
      congr 1; rw [eq_iff_iff]; omega
  have := key (n - (k + 1)) (by omega)
  rw [show k + 1 + (n - (k + 1)) = n from by omega] at this; exact this

/-! ### bit by bit -/
def bitB (n : Nat) (o : Bool → Bool → Bool) (f g : Nat → Bool) : Nat → Bool := fun i => decide (i < n) && o (f i) (g i)
theorem bitB_sup (n : Nat) (o : Bool → Bool → Bool) (f g : Nat → Bool) : Sup n (bitB n o f g) := fun i h => by simp [bitB]; omega
theorem bitB_zero (o : Bool → Bool → Bool) (f g : Nat → Bool) : off = bitB 0 o f g := by funext i; simp [off, bitB]
theorem bitB_succ (o : Bool → Bool → Bool) (f g : Nat → Bool) (k : Nat) : upd (bitB k o f g) k (o (f k) (g k)) = bitB (k + 1) o f g := by
  funext i; unfold upd bitB
  by_cases h : i = k
  · subst h; simp
  · rw [if_neg h]; congr 1; simp; omega
end Wb
end Go.Proofs.Ytbjckcjfambpoaa
namespace Go.Proofs.Ytbjckcjfambpoaa
set_option linter.unusedSimpArgs false
set_option linter.unusedVariables false
set_option maxRecDepth 100000
open Go.RowKit

def bw (f : Nat → Bool) : Array Value := Array.ofFn (n := 64) fun i => .bool (f i)
theorem bw_size (f : Nat → Bool) : (bw f).size = 64 := by simp [bw]
theorem bw_get (f : Nat → Bool) (j : Nat) (h : j < 64) : (bw f)[j]? = some (.bool (f j)) := by simp [bw, h]
theorem bw_zero : #[Value.bool false, .bool false, .bool false, .bool false, .bool false, .bool false, .bool false, .bool false, .bool false, .bool false, .bool false, .bool false, .bool false, .bool false, .bool false, .bool false,
    .bool false, .bool false, .bool false, .bool false, .bool false, .bool false, .bool false, .bool false, .bool false, .bool false, .bool false, .bool false, .bool false, .bool false, .bool false, .bool false,
    .bool false, .bool false, .bool false, .bool false, .bool false, .bool false, .bool false, .bool false, .bool false, .bool false, .bool false, .bool false, .bool false, .bool false, .bool false, .bool false,
    .bool false, .bool false, .bool false, .bool false, .bool false, .bool false, .bool false, .bool false, .bool false, .bool false, .bool false, .bool false, .bool false, .bool false, .bool false, .bool false] = bw off := by
  rfl
theorem bw_congr {f g : Nat → Bool} (h : ∀ i, i < 64 → f i = g i) : bw f = bw g := by
  unfold bw; congr 1; funext i; rw [h i i.2]
theorem bw_one (f : Nat → Bool) : (bw f).all (·.oneCell') = true := by
  rw [Array.all_eq_true_iff_forall_mem]
  intro v hv
  simp only [bw, Array.mem_ofFn] at hv
  obtain ⟨i, rfl⟩ := hv
  rfl
theorem size29 (f : Nat → Bool) : (Try.prog.info? 62).map (·.size) = some (bw f).size := by rw [bw_size]; kernel_rfl

/-- Block g holds the 64 bools f. -/
def Row (W : World) (g : Nat) (f : Nat → Bool) : Prop := W.heap[g]? = some (.cells (bw f) 62)
theorem Row.new (w : World) (f : Nat → Bool) : Row (w.alloc (.cells (bw f) 62)) w.heap.size f := heap_alloc_last w _
theorem Row.new_at (w : World) (f : Nat → Bool) {g : Nat} (h : w.heap.size = g) : Row (w.alloc (.cells (bw f) 62)) g f := h ▸ Row.new w f
theorem Row.lt {W : World} {g : Nat} {f : Nat → Bool} (h : Row W g f) : g < W.heap.size := (Array.getElem?_eq_some_iff.1 h).1
theorem Row.alloc {W : World} {g : Nat} {f : Nat → Bool} (h : Row W g f) (o : Obj) : Row (W.alloc o) g f := by
  have := h.lt
  unfold Row at *
  rw [Below.heap_alloc _ _ _ this]; exact h
theorem Row.drewN {W : World} {g : Nat} {f : Nat → Bool} (h : Row W g f) (n : Nat) : Row (W.drewN n) g f := h
theorem Row.cell {W : World} {g : Nat} {f : Nat → Bool} (h : Row W g f) {j : Nat} (hj : j < 64) : W.cell? ⟨g, j, none⟩ = some (.bool (f j)) := by
  rw [cell_of_row W g j _ _ _ h, bw_get f j hj]
theorem Row.loose {W : World} {g : Nat} {f : Nat → Bool} (h : Row W g f) (j : Nat) : W.frozen? ⟨g, j, none⟩ = false := by
  unfold Row at h
  simp [World.frozen?, h]
theorem bw_none (f : Nat → Bool) (j : Nat) (h : ¬ j < 64) : (bw f)[j]? = none := by
  rw [Array.getElem?_eq_none_iff, bw_size]; omega
theorem bw_set (f : Nat → Bool) (j : Nat) (b : Bool) : (bw f).setIfInBounds j (.bool b) = bw (upd f j b) := by
  apply Array.ext_getElem?
  intro i
  rw [Array.getElem?_setIfInBounds]
  by_cases hi : i < 64
  · by_cases e : j = i
    · subst e; rw [if_pos rfl, if_pos (by rw [bw_size]; exact hi)]; rw [bw_get _ j hi]; unfold upd; rw [if_pos rfl]
    · rw [if_neg e, bw_get _ i hi, bw_get _ i hi]; unfold upd; rw [if_neg (fun q => e (Eq.symm q))]
  · rw [bw_none (upd f j b) i hi]
    by_cases e : j = i
    · subst e; rw [if_pos rfl, if_neg (by rw [bw_size]; exact hi)]
    · rw [if_neg e, bw_none _ i hi]
theorem Row.set_same {W : World} {g : Nat} {f : Nat → Bool} (h : Row W g f) (j : Nat) (b : Bool) : Row (W.setCell ⟨g, j, none⟩ (.bool b)) g (upd f j b) := by
  unfold Row at *
  rw [setCell_eq_setRow W g j _ _ _ _ h, setRow_heap W g _ _ _ _ h, bw_set]
theorem Row.set_other {W : World} {g : Nat} {f : Nat → Bool} (h : Row W g f) {k : Nat} (hk : g ≠ k) (j : Nat) (v : Value) : Row (W.setCell ⟨k, j, none⟩ v) g f := by
  unfold Row at *
  rw [Below.heap_setCell _ _ _ _ hk]; exact h
theorem Row.below {B : Nat} {W W' : World} {g : Nat} {f : Nat → Bool} (h : Row W g f) (hb : Below B W W') (hg : g < B) : Row W' g f := by
  unfold Row at *
  rw [hb.block g hg]; exact h
theorem Row.row_same {W : World} {g : Nat} {f : Nat → Bool} (h : Row W g f) (k : Nat → Bool) : Row (W.setRow g (bw k)) g k := setRow_heap W g _ _ _ _ h
theorem Row.row_other {W : World} {g : Nat} {f : Nat → Bool} (h : Row W g f) {k : Nat} (hk : g ≠ k) (c : Array Value) : Row (W.setRow k c) g f := by
  unfold Row at *
  rw [setRow_other W k g c hk]; exact h
theorem below_setRow {B : Nat} {a W : World} (h : Below B a W) {g : Nat} (hg : B ≤ g) (c : Array Value) : Below B a (W.setRow g c) :=
  h.trans ⟨rfl, rfl, rfl, by simp, fun k hk => setRow_other W g k c (by omega)⟩
theorem below_drewN {B : Nat} {a W : World} (h : Below B a W) (n : Nat) : Below B a (W.drewN n) := ⟨h.os, h.tape, h.output, h.size, h.block⟩

theorem load_row {ops : Array Oper} {rest : List Oper} {o : Oper} {a : Act} {w : World} {Q : Exit → Act → World → Prop} (x : Operand) (g : Nat) (f : Nat → Bool) (hr : Row w g f) (hgd : o.guard = none) (ho : o.op = .load 62 x)
    (hx : a.eval x = .pointer (some ⟨g, 0, none⟩)) (h : wpList Try.prog ops Q rest (a.put o.dst (.agg (bw f))) w) : wpList Try.prog ops Q (o :: rest) a w :=
  wpList_load_row hgd 62 x ho g hx 62 (bw f) (0, 0) _ hr Try.underlying62 rfl (size29 f) h
theorem store_row {ops : Array Oper} {rest : List Oper} {o : Oper} {a : Act} {w : World} {Q : Exit → Act → World → Prop} (x y : Operand) (g : Nat) (f k : Nat → Bool) (hr : Row w g f) (hgd : o.guard = none) (ho : o.op = .store 62 x y)
    (hx : a.eval x = .pointer (some ⟨g, 0, none⟩)) (hy : a.eval y = .agg (bw k))
    (h : wpList Try.prog ops Q rest (a.put o.dst undef) (w.setRow g (bw k))) : wpList Try.prog ops Q (o :: rest) a w :=
  wpList_store_row hgd 62 x y ho g (bw k) hx hy 62 (bw f) hr (size29 k) (by rw [bw_size, bw_size]) (bw_one k) h
theorem ret_row {fn : Func} {p : Tmp} {R : Ending → World → Prop} {a : Act} {w : World} (g : Nat) (f : Nat → Bool) (hr : Row w g f) (hf : fn.results = #[.cell p 62]) (hd : a.defers = []) (hp : a.tmps.getD p undef = .pointer (some ⟨g, 0, none⟩)) (hR : R (.returned (.agg (bw f))) w) :
    bodyPost Try.prog fn R .ret a w :=
  bodyPost_ret (results_cell_row hf a.tmps w g 62 (bw f) (0, 0) _ hp hr Try.underlying62 rfl (size29 f)) hd hR

/-- The block made last of a world that is written out. -/
theorem below_three {w : World} {o1 o2 o3 : Obj} : Below w.heap.size w (((w.alloc o1).alloc o2).alloc o3) := (((Below.refl _ _).alloc (Nat.le_refl _) _).alloc (by simp) _).alloc (by simp; omega) _
theorem below_four {w : World} {o1 o2 o3 o4 : Obj} : Below w.heap.size w ((((w.alloc o1).alloc o2).alloc o3).alloc o4) := (below_three).alloc (by simp; omega) _
theorem below_two {w : World} {o1 o2 : Obj} : Below w.heap.size w ((w.alloc o1).alloc o2) := ((Below.refl _ _).alloc (Nat.le_refl _) _).alloc (by simp) _
theorem below_one {w : World} {o1 : Obj} : Below w.heap.size w (w.alloc o1) := (Below.refl _ _).alloc (Nat.le_refl _) _
end Go.Proofs.Ytbjckcjfambpoaa
namespace Go.Proofs.Ytbjckcjfambpoaa
set_option linter.unusedSimpArgs false
set_option linter.unusedVariables false
set_option maxRecDepth 100000
open Go.RowKit

set_option maxHeartbeats 400000 in
theorem wd_rwidth_any (a : Int) (w : World) :
    Calls Try.prog 30 #[.int .i64 a] w fun e w' => e = .returned (.int .i64 (Wd.wid a)) ∧ w = w' := by
  go_enter Try.func30, Try.ntmps30
  go_wp2
  all_goals
    go_ret
    refine ⟨wret_int ?_, rfl⟩
    unfold Wd.wid
    omega

set_option maxHeartbeats 400000 in
theorem not_any (n : Nat) (f : Nat → Bool) (h2 : n ≤ 64) (w : World) :
    Calls Try.prog 67 #[.int .i64 n, .agg (bw f)] w fun e w' => e = .returned (.agg (bw (Wb.notB n f))) ∧ Below w.heap.size w w' := by
  go_enter Try.func67, Try.ntmps67
  go_wp2
  rw [bw_zero]
  refine gen_world (S := fun W => Row W w.heap.size f ∧ Row W (w.heap.size + 1) off ∧ Row W (w.heap.size + 1 + 1) off ∧ Below w.heap.size w W) ?_ ?_
  · exact ⟨((Row.new w f).alloc _).alloc _, (Row.new_at (w.alloc _) off (by simp)).alloc _, Row.new_at ((w.alloc _).alloc _) off (by simp), below_three⟩
  intro W ⟨r0, r1, r2, hb⟩
  go_loopw [6] (fun i V => ∃ k : Nat, k ≤ n ∧ i = .int .i64 k ∧ Row V w.heap.size f ∧ Row V (w.heap.size + 1) off ∧ Row V (w.heap.size + 1 + 1) (Wb.notB k f) ∧ Below w.heap.size w V) (fun i _ => n - (intOf i).toNat)
  case atStart => exact ⟨0, Nat.zero_le _, rfl, r0, r1, Wb.notB_zero f ▸ r2, hb⟩
  case round =>
    clear r0 r1 r2 hb W
    obtain ⟨k, hk, rfl, r0, r1, r2, hb⟩ := hrel
    by_cases hlt : k < n
    · have c0 := r0.cell (j := k) (by omega)
      have c2 := r2.cell (j := k) (by omega)
      have z2 := r2.loose k
      go_wp2
      go_roundw
      case rel => exact ⟨k + 1, by omega, by go_num, r0.set_other (by omega) _ _, r1.set_other (by omega) _ _, Wb.notB_succ f k ▸ r2.set_same k _, hb.setCell (by show w.heap.size ≤ w.heap.size + 1 + 1; omega) _⟩
      case measure => simp [intOf]; omega
    · obtain rfl : k = n := by omega
      go_wp2_with (first
        | (with_reducible refine load_row (.tmp 5) _ _ r2 rfl rfl rfl ?_)
        | (with_reducible refine store_row (.tmp 4) (.tmp 18) _ _ _ r1 rfl rfl rfl rfl ?_))
      exact ret_row (p := 4) _ _ (r1.row_same _) Try.results67 rfl rfl ⟨rfl, below_setRow hb (by omega) _⟩

set_option maxHeartbeats 400000 in
theorem of_any (n x : Nat) (h2 : n ≤ 64) (hx : x < 18446744073709551616) (w : World) :
    Calls Try.prog 68 #[.int .i64 n, .int .u64 x] w fun e w' => e = .returned (.agg (bw (Wb.ofB n x))) ∧ Below w.heap.size w w' := by
  go_enter Try.func68, Try.ntmps68
  go_wp2
  rw [bw_zero]
  refine gen_world (S := fun W => Row W w.heap.size off ∧ Row W (w.heap.size + 1) off ∧ Below w.heap.size w W) ?_ ?_
  · exact ⟨(Row.new w off).alloc _, Row.new_at (w.alloc _) off (by simp), below_two⟩
  intro W ⟨r0, r1, hb⟩
  go_loopw [1, 6] (fun y i V => ∃ k : Nat, k ≤ 64 ∧ i = .int .i64 k ∧ y = .int .u64 ((x / 2 ^ k : Nat) : Int) ∧ Row V w.heap.size off ∧ Row V (w.heap.size + 1) (Wb.ofP n x k) ∧ Below w.heap.size w V) (fun _ i _ => 64 - (intOf i).toNat)
  case atStart => exact ⟨0, Nat.zero_le _, rfl, by simp, r0, Wb.ofP_zero n x ▸ r1, hb⟩
  case round =>
    clear r0 r1 hb W
    obtain ⟨k, hk, rfl, rfl, r0, r1, hb⟩ := hrel
    have hle : x / 2 ^ k ≤ x := Nat.div_le_self _ _
    have hq : x / 2 ^ k / 2 = x / 2 ^ (k + 1) := by rw [Nat.div_div_eq_div_mul, Nat.pow_succ]
    have ht := Nat.testBit_eq_decide_div_mod_eq (x := x) (i := k)
    generalize x / 2 ^ k = q at *
    have HQ := Lib.hid hq
    have B1 : k < n → ((q : Int) % 2 == 1) = Wb.ofB n x k := by
      intro h; unfold Wb.ofB; rw [ht, Bool.eq_iff_iff]; simp [h]; omega
    have B2 : ¬ k < n → false = Wb.ofB n x k := by
      intro h; unfold Wb.ofB; simp [h]
    have H1 := Lib.hid B1
    have H2 := Lib.hid B2
    clear hq ht B1 B2
    by_cases hlt : k < 64
    · have c1 := r1.cell (j := k) (by omega)
      have z1 := r1.loose k
      go_wp2
      all_goals
        go_roundw
        case rel =>
          refine ⟨k + 1, by omega, by go_num, ?_, r0.set_other (by omega) _ _, ?_, hb.setCell (by show w.heap.size ≤ w.heap.size + 1; omega) _⟩
          · rw [← HQ.out]; exact congrArg (Value.int .u64) (by omega)
          · first
              | exact (Wb.ofP_succ n x k _ (H1.out ‹_›)) ▸ r1.set_same k _
              | exact (Wb.ofP_succ n x k _ (H2.out ‹_›)) ▸ r1.set_same k _
        case measure => simp [intOf]; omega
    · obtain rfl : k = 64 := by omega
      rw [Wb.ofP_last n x h2] at r1
      go_wp2_with (first
        | (with_reducible refine load_row (.tmp 5) _ _ r1 rfl rfl rfl ?_)
        | (with_reducible refine store_row (.tmp 4) (.tmp 23) _ _ _ r0 rfl rfl rfl rfl ?_))
      exact ret_row (p := 4) _ _ (r0.row_same _) Try.results68 rfl rfl ⟨rfl, below_setRow hb (by omega) _⟩

set_option maxHeartbeats 400000 in
theorem num_any (f : Nat → Bool) (w : World) :
    Calls Try.prog 66 #[.agg (bw f)] w fun e w' => e = .returned (.int .u64 (Wb.val f 64 : Nat)) ∧ Below w.heap.size w w' := by
  go_enter Try.func66, Try.ntmps66
  go_wp2
  refine gen_world (S := fun W => Row W w.heap.size f ∧ Below w.heap.size w W) ⟨Row.new w f, below_one⟩ ?_
  intro W ⟨r0, hb⟩
  go_loopw [3, 4] (fun s i V => ∃ m : Nat, m ≤ 64 ∧ i = .int .i64 (63 - (m : Int)) ∧ s = .int .u64 (Wb.hor f m : Nat) ∧ Row V w.heap.size f ∧ Below w.heap.size w V) (fun _ i _ => (intOf i + 1).toNat)
  case atStart => exact ⟨0, Nat.zero_le _, rfl, rfl, r0, hb⟩
  case round =>
    clear r0 hb W
    obtain ⟨m, hm, rfl, rfl, r0, hb⟩ := hrel
    by_cases hlt : m < 64
    · have c0 := r0.cell (j := 63 - m) (by omega)
      have hbd := Wb.hor_bd f m hlt
      have T1 : f (63 - m) = true → ((Wb.hor f m : Nat) : Int) * 2 + 1 = (Wb.hor f (m + 1) : Nat) := by intro h; rw [Wb.hor]; simp [h]; omega
      have T2 : f (63 - m) = false → ((Wb.hor f m : Nat) : Int) * 2 = (Wb.hor f (m + 1) : Nat) := by intro h; rw [Wb.hor]; simp [h]; omega
      have H1 := Lib.hid T1
      have H2 := Lib.hid T2
      clear T1 T2
      have hi : (63 - (m : Int)).toNat = 63 - m := by omega
      have hi0 : 0 ≤ 63 - (m : Int) := by omega
      go_wp2
      all_goals
        go_roundw
        case rel =>
          refine ⟨m + 1, by omega, congrArg (Value.int .i64) (by omega), ?_, r0, hb⟩
          first
            | exact congrArg (Value.int .u64) (H1.out ‹_›)
            | exact congrArg (Value.int .u64) (H2.out ‹_›)
        case measure => simp [intOf]; omega
    · obtain rfl : m = 64 := by omega
      go_wp2
      go_ret
      exact ⟨wret_int (by rw [Wb.hor_all]), hb⟩
end Go.Proofs.Ytbjckcjfambpoaa
namespace Go.Proofs.Ytbjckcjfambpoaa
set_option linter.unusedSimpArgs false
set_option linter.unusedVariables false
set_option maxRecDepth 100000
open Go.RowKit

set_option maxHeartbeats 1000000 in
theorem add_any (n : Nat) (f g : Nat → Bool) (c : Bool) (h2 : n ≤ 64) (w : World) :
    Calls Try.prog 70 #[.int .i64 n, .agg (bw f), .agg (bw g), .bool c] w fun e w' => e = .returned (.agg (bw (Wb.addB n f g c))) ∧ Below w.heap.size w w' := by
  go_enter Try.func70, Try.ntmps70
  go_wp2
  rw [bw_zero]
  refine gen_world (S := fun W => Row W w.heap.size f ∧ Row W (w.heap.size + 1) g ∧ Row W (w.heap.size + 1 + 1) off ∧ Row W (w.heap.size + 1 + 1 + 1) off ∧ Below w.heap.size w W) ?_ ?_
  · exact ⟨(((Row.new w f).alloc _).alloc _).alloc _, ((Row.new_at (w.alloc _) g (by simp)).alloc _).alloc _, (Row.new_at ((w.alloc _).alloc _) off (by simp)).alloc _, Row.new_at (((w.alloc _).alloc _).alloc _) off (by simp), below_four⟩
  intro W ⟨r0, r1, r2, r3, hb⟩
  go_loopw [3, 10] (fun d i V => ∃ k : Nat, k ≤ n ∧ i = .int .i64 k ∧ d = .bool (Wb.car f g c k) ∧ Row V w.heap.size f ∧ Row V (w.heap.size + 1) g ∧ Row V (w.heap.size + 1 + 1) off ∧ Row V (w.heap.size + 1 + 1 + 1) (Wb.addB k f g c) ∧ Below w.heap.size w V) (fun _ i _ => n - (intOf i).toNat)
  case atStart => exact ⟨0, Nat.zero_le _, rfl, rfl, r0, r1, r2, Wb.addB_zero f g c ▸ r3, hb⟩
  case round =>
    clear r0 r1 r2 r3 hb W
    obtain ⟨k, hk, rfl, rfl, r0, r1, r2, r3, hb⟩ := hrel
    by_cases hlt : k < n
    · have c0 := r0.cell (j := k) (by omega)
      have c1 := r1.cell (j := k) (by omega)
      have c3 := r3.cell (j := k) (by omega)
      have z3 := r3.loose k
      have hs := fun b hb => Wb.addB_succ f g c k b hb
      have hc : Wb.car f g c (k + 1) = ((f k && g k) || (f k && Wb.car f g c k) || (g k && Wb.car f g c k)) := rfl
      generalize Wb.car f g c k = d at *
      generalize f k = p at *
      generalize g k = q at *
      have HC := Lib.hid hc
      have HS := Lib.hid hs
      clear hc hs
      cases p <;> cases q <;> cases d
      all_goals
        go_wp2
        go_roundw
        case rel => exact ⟨k + 1, by omega, by go_num, congrArg Value.bool (Eq.symm HC.out), r0.set_other (by omega) _ _, r1.set_other (by omega) _ _, r2.set_other (by omega) _ _, (HS.out _ rfl) ▸ r3.set_same k _, hb.setCell (by show w.heap.size ≤ w.heap.size + 1 + 1 + 1; omega) _⟩
        case measure => simp [intOf]; omega
    · obtain rfl : k = n := by omega
      go_wp2_with (first
        | (with_reducible refine load_row (.tmp 9) _ _ r3 rfl rfl rfl ?_)
        | (with_reducible refine store_row (.tmp 8) (.tmp 37) _ _ _ r2 rfl rfl rfl rfl ?_))
      exact ret_row (p := 8) _ _ (r2.row_same _) Try.results70 rfl rfl ⟨rfl, below_setRow hb (by omega) _⟩

set_option maxHeartbeats 400000 in
theorem up_any (n : Nat) (f : Nat → Bool) (b : Bool) (h1 : 1 ≤ n) (h2 : n ≤ 64) (w : World) :
    Calls Try.prog 87 #[.int .i64 n, .agg (bw f), .bool b] w fun e w' => e = .returned (.agg (bw (Wb.upB n f b))) ∧ Below w.heap.size w w' := by
  go_enter Try.func87, Try.ntmps87
  go_wp2
  rw [bw_zero]
  refine gen_world (S := fun W => Row W w.heap.size f ∧ Row W (w.heap.size + 1) off ∧ Row W (w.heap.size + 1 + 1) off ∧ Below w.heap.size w W) ?_ ?_
  · exact ⟨((Row.new w f).alloc _).alloc _, (Row.new_at (w.alloc _) off (by simp)).alloc _, Row.new_at ((w.alloc _).alloc _) off (by simp), below_three⟩
  intro W ⟨r0, r1, r2, hb⟩
  go_loopw [8] (fun i V => ∃ k : Nat, k < n ∧ i = .int .i64 k ∧ Row V w.heap.size f ∧ Row V (w.heap.size + 1) off ∧ Row V (w.heap.size + 1 + 1) (Wb.upP n f k) ∧ Below w.heap.size w V) (fun i _ => (intOf i).toNat)
  case atStart => exact ⟨n - 1, by omega, congrArg (Value.int .i64) (by omega), r0, r1, Wb.upP_start n f h1 ▸ r2, hb⟩
  case round =>
    clear r0 r1 r2 hb W
    obtain ⟨k, hk, rfl, r0, r1, r2, hb⟩ := hrel
    cases k with
    | zero =>
      have c2 := r2.cell (j := 0) (by omega)
      have z2 := r2.loose 0
      go_wp2_with (first
        | (with_reducible refine load_row (.tmp 7) _ _ (r2.set_same 0 b) rfl rfl rfl ?_)
        | (with_reducible refine store_row (.tmp 6) (.tmp 23) _ _ _ (r1.set_other (by omega) _ _) rfl rfl rfl rfl ?_))
      exact ret_row (p := 6) _ _ ((r1.set_other (by omega) _ _).row_same _) Try.results87 rfl rfl ⟨by rw [Wb.upP_last], below_setRow (hb.setCell (by show w.heap.size ≤ w.heap.size + 1 + 1; omega) _) (by omega) _⟩
    | succ k =>
      have c0 := r0.cell (j := k) (by omega)
      have c2 := r2.cell (j := k + 1) (by omega)
      have z2 := r2.loose (k + 1)
      go_wp2
      go_roundw
      case rel => exact ⟨k, by omega, congrArg (Value.int .i64) (by omega), r0.set_other (by omega) _ _, r1.set_other (by omega) _ _, Wb.upP_step n f k hk ▸ r2.set_same (k + 1) _, hb.setCell (by show w.heap.size ≤ w.heap.size + 1 + 1; omega) _⟩
      case measure => (simp [intOf]; try omega)

set_option maxHeartbeats 400000 in
theorem down_any (n : Nat) (f : Nat → Bool) (b : Bool) (h1 : 1 ≤ n) (h2 : n ≤ 64) (w : World) :
    Calls Try.prog 89 #[.int .i64 n, .agg (bw f), .bool b] w fun e w' => e = .returned (.agg (bw (Wb.downB n f b))) ∧ Below w.heap.size w w' := by
  go_enter Try.func89, Try.ntmps89
  go_wp2
  rw [bw_zero]
  refine gen_world (S := fun W => Row W w.heap.size f ∧ Row W (w.heap.size + 1) off ∧ Row W (w.heap.size + 1 + 1) off ∧ Below w.heap.size w W) ?_ ?_
  · exact ⟨((Row.new w f).alloc _).alloc _, (Row.new_at (w.alloc _) off (by simp)).alloc _, Row.new_at ((w.alloc _).alloc _) off (by simp), below_three⟩
  intro W ⟨r0, r1, r2, hb⟩
  go_loopw [8] (fun i V => ∃ k : Nat, k + 1 ≤ n ∧ i = .int .i64 k ∧ Row V w.heap.size f ∧ Row V (w.heap.size + 1) off ∧ Row V (w.heap.size + 1 + 1) (Wb.downP n f k) ∧ Below w.heap.size w V) (fun i _ => n - (intOf i).toNat)
  case atStart => exact ⟨0, by omega, rfl, r0, r1, Wb.downP_zero n f ▸ r2, hb⟩
  case round =>
    clear r0 r1 r2 hb W
    obtain ⟨k, hk, rfl, r0, r1, r2, hb⟩ := hrel
    by_cases hlt : k + 1 < n
    · have c0 := r0.cell (j := k + 1) (by omega)
      have c2 := r2.cell (j := k) (by omega)
      have z2 := r2.loose k
      have hd : (k : Int) < (n : Int) - 1 := by omega
      go_wp2
      go_roundw
      case rel => exact ⟨k + 1, by omega, by go_num, r0.set_other (by omega) _ _, r1.set_other (by omega) _ _, Wb.downP_succ n f k hlt ▸ r2.set_same k _, hb.setCell (by show w.heap.size ≤ w.heap.size + 1 + 1; omega) _⟩
      case measure => (simp [intOf]; try omega)
    · obtain rfl : n = k + 1 := by omega
      have c2 := r2.cell (j := k) (by omega)
      have z2 := r2.loose k
      have HL := Lib.hid (Wb.downP_last (k + 1) f b h1)
      go_wp2_with (first
        | (with_reducible refine load_row (.tmp 7) _ _ (r2.set_same k b) rfl rfl rfl ?_)
        | (with_reducible refine store_row (.tmp 6) (.tmp 25) _ _ _ (r1.set_other (by omega) _ _) rfl rfl rfl rfl ?_))
      exact ret_row (p := 6) _ _ ((r1.set_other (by omega) _ _).row_same _) Try.results89 rfl rfl ⟨by rw [← HL.out]; rfl, below_setRow (hb.setCell (by show w.heap.size ≤ w.heap.size + 1 + 1; omega) _) (by omega) _⟩

set_option maxHeartbeats 400000 in
theorem truth_any (b : Bool) (w : World) :
    Calls Try.prog 74 #[.bool b] w fun e w' => e = .returned (.agg (bw (upd off 0 b))) ∧ Below w.heap.size w w' := by
  go_enter Try.func74, Try.ntmps74
  go_upto_region 2 with (fail)
  rw [bw_zero]
  refine gen_world (S := fun W => Row W w.heap.size off ∧ Row W (w.heap.size + 1) off ∧ Below w.heap.size w W) ?_ ?_
  · exact ⟨(Row.new w off).alloc _, Row.new_at (w.alloc _) off (by simp), below_two⟩
  intro W ⟨r0, r1, hb⟩
  have c1 := r1.cell (j := 0) (by omega)
  have z1 := r1.loose 0
  go_wp2_with (first
    | (with_reducible refine load_row (.tmp 3) _ _ (r1.set_same 0 b) rfl rfl rfl ?_)
    | (with_reducible refine store_row (.tmp 2) (.tmp 6) _ _ _ (r0.set_other (by omega) _ _) rfl rfl rfl rfl ?_))
  exact ret_row (p := 2) _ _ ((r0.set_other (by omega) _ _).row_same _) Try.results74 rfl rfl ⟨rfl, below_setRow (hb.setCell (by show w.heap.size ≤ w.heap.size + 1; omega) _) (by omega) _⟩

set_option maxHeartbeats 400000 in
theorem far_any (n : Nat) (f : Nat → Bool) (h2 : n ≤ 64) (w : World) :
    Calls Try.prog 88 #[.int .i64 n, .agg (bw f)] w fun e w' => e = .returned (.int .i64 (min n (Wb.val f 64) : Nat)) ∧ Below w.heap.size w w' := by
  have hv := Wb.val_lt f 64
  go_enter Try.func88, Try.ntmps88
  go_wp2_with (first
    | (with_reducible refine load_row (.tmp 3) _ _ (Row.new w f) rfl rfl rfl ?_))
  refine (num_any f _).mono ?_
  rintro e w1 ⟨rfl, hb⟩
  by_cases hgt : n < Wb.val f 64
  · go_wp2
    go_ret
    exact ⟨wret_int (by omega), (below_one).trans (hb.mono (by simp))⟩
  · go_wp2
    go_ret
    exact ⟨wret_int (by omega), (below_one).trans (hb.mono (by simp))⟩

set_option maxHeartbeats 400000 in
theorem less_any' (n : Nat) (f g : Nat → Bool) (h2 : n ≤ 64) (w : World) :
    Calls Try.prog 75 #[.int .i64 n, .agg (bw f), .agg (bw g)] w fun e w' => e = .returned (.bool (decide (Wb.val f n < Wb.val g n))) ∧ Below w.heap.size w w' := by
  go_enter Try.func75, Try.ntmps75
  go_wp2
  refine gen_world (S := fun W => Row W w.heap.size f ∧ Row W (w.heap.size + 1) g ∧ Below w.heap.size w W) ?_ ?_
  · exact ⟨(Row.new w f).alloc _, Row.new_at (w.alloc _) g (by simp), below_two⟩
  intro W ⟨r0, r1, hb⟩
  go_loopw [7] (fun i V => ∃ k : Nat, k ≤ n ∧ i = .int .i64 ((k : Int) - 1) ∧ (∀ j, k ≤ j → j < n → f j = g j) ∧ Row V w.heap.size f ∧ Row V (w.heap.size + 1) g ∧ Below w.heap.size w V) (fun i _ => (intOf i + 1).toNat)
  case atStart => exact ⟨n, Nat.le_refl _, rfl, fun j h h' => by omega, r0, r1, hb⟩
  case round =>
    clear r0 r1 hb W
    obtain ⟨k, hk, rfl, heq, r0, r1, hb⟩ := hrel
    cases k with
    | zero =>
      have e : Wb.val f n = Wb.val g n := Wb.val_congr n (fun i hi => heq i (Nat.zero_le _) hi)
      have HE := Lib.hid (show false = decide (Wb.val f n < Wb.val g n) by rw [e]; simp)
      clear e heq
      go_wp2
      go_ret
      exact ⟨by rw [← HE.out]; rfl, hb⟩
    | succ k =>
      have c0 := r0.cell (j := k) (by omega)
      have c1 := r1.cell (j := k) (by omega)
      have HQ := Lib.hid heq
      clear heq
      have e1 : ((k + 1 : Nat) : Int) - 1 = k := by omega
      rw [e1]
      clear e1
      by_cases hfg : f k = g k
      · have hn : (f k == g k) = true := by simp [hfg]
        have HF := Lib.hid (show ∀ j, k ≤ j → j < n → f j = g j from fun j h h' => by
          by_cases e : j = k
          · subst e; exact hfg
          · exact HQ.out j (by omega) h')
        clear hfg
        go_wp2
        go_quiet (fail)
        go_wp2
        go_roundw
        case rel => exact ⟨k, by omega, rfl, HF.out, r0.drewN _, r1.drewN _, below_drewN hb _⟩
        case measure => (simp [intOf]; try omega)
      · have hn : (f k == g k) = false := by simpa using hfg
        have HV := Lib.hid (Wb.val_less f g n k (by omega) (fun j h h' => HQ.out j (by omega) h') hfg)
        clear hfg
        go_wp2
        go_quiet (fail)
        go_wp2
        go_ret
        exact ⟨by rw [← HV.out]; rfl, below_drewN hb _⟩
end Go.Proofs.Ytbjckcjfambpoaa
namespace Go.Proofs.Ytbjckcjfambpoaa
set_option linter.unusedSimpArgs false
set_option linter.unusedVariables false
set_option maxRecDepth 100000
open Go.RowKit

namespace Wb
def mulX (n : Nat) (f : Nat → Bool) : Nat → (Nat → Bool)
  | 0 => f
  | k + 1 => upB n (mulX n f k) false
def mulO (n : Nat) (f g : Nat → Bool) : Nat → (Nat → Bool)
  | 0 => off
  | k + 1 => if g k then addB n (mulO n f g k) (mulX n f k) false else mulO n f g k
end Wb

set_option maxHeartbeats 1000000 in
theorem mul_any (n : Nat) (f g : Nat → Bool) (h1 : 1 ≤ n) (h2 : n ≤ 64) (w : World) :
    Calls Try.prog 71 #[.int .i64 n, .agg (bw f), .agg (bw g)] w fun e w' => e = .returned (.agg (bw (Wb.mulO n f g n))) ∧ Below w.heap.size w w' := by
  go_enter Try.func71, Try.ntmps71
  go_wp2
  rw [bw_zero]
  refine gen_world (S := fun W => Row W w.heap.size f ∧ Row W (w.heap.size + 1) g ∧ Row W (w.heap.size + 1 + 1) off ∧ Row W (w.heap.size + 1 + 1 + 1) off ∧ Below w.heap.size w W) ?_ ?_
  · exact ⟨(((Row.new w f).alloc _).alloc _).alloc _, ((Row.new_at (w.alloc _) g (by simp)).alloc _).alloc _, (Row.new_at ((w.alloc _).alloc _) off (by simp)).alloc _, Row.new_at (((w.alloc _).alloc _).alloc _) off (by simp), below_four⟩
  intro W ⟨r0, r1, r2, r3, hb⟩
  go_loopw [8] (fun i V => ∃ k : Nat, k ≤ n ∧ i = .int .i64 k ∧ Row V w.heap.size (Wb.mulX n f k) ∧ Row V (w.heap.size + 1) g ∧ Row V (w.heap.size + 1 + 1) off ∧ Row V (w.heap.size + 1 + 1 + 1) (Wb.mulO n f g k) ∧ Below w.heap.size w V) (fun i _ => n - (intOf i).toNat)
  case atStart => exact ⟨0, Nat.zero_le _, rfl, r0, r1, r2, r3, hb⟩
  case round =>
    clear r0 r1 r2 r3 hb W
    obtain ⟨k, hk, rfl, r0, r1, r2, r3, hb⟩ := hrel
    by_cases hlt : k < n
    · have c1 := r1.cell (j := k) (by omega)
      have hx : Wb.mulX n f (k + 1) = Wb.upB n (Wb.mulX n f k) false := rfl
      have ho : Wb.mulO n f g (k + 1) = if g k then Wb.addB n (Wb.mulO n f g k) (Wb.mulX n f k) false else Wb.mulO n f g k := rfl
      cases hg : g k
      · rw [hg] at c1 ho
        have HX := Lib.hid hx
        have HO := Lib.hid (show Wb.mulO n f g (k + 1) = Wb.mulO n f g k from ho)
        clear hx ho hg
        go_wp2_with (first
          | (with_reducible refine load_row (.tmp 4) _ _ r0 rfl rfl rfl ?_)
          | fail)
        refine (up_any n _ _ h1 h2 _).mono ?_
        rintro e w1 ⟨rfl, hb1⟩
        go_wp2_with (first
          | (with_reducible refine store_row (.tmp 4) (.tmp 23) _ _ _ (r0.below hb1 r0.lt) rfl rfl rfl rfl ?_)
          | fail)
        go_roundw
        case rel => exact ⟨k + 1, by omega, by go_num, HX.out ▸ (r0.below hb1 r0.lt).row_same _, (r1.below hb1 r1.lt).row_other (by omega) _, (r2.below hb1 r2.lt).row_other (by omega) _, HO.out ▸ (r3.below hb1 r3.lt).row_other (by omega) _, below_setRow (hb.trans (hb1.mono (by have := hb.size; omega))) (Nat.le_refl _) _⟩
        case measure => (simp [intOf]; try omega)
      · rw [hg] at c1 ho
        have HX := Lib.hid hx
        have HO := Lib.hid (show Wb.mulO n f g (k + 1) = Wb.addB n (Wb.mulO n f g k) (Wb.mulX n f k) false from ho)
        clear hx ho hg
        go_wp2_with (first
          | (with_reducible refine load_row (.tmp 4) _ _ r0 rfl rfl rfl ?_)
          | (with_reducible refine load_row (.tmp 7) _ _ r3 rfl rfl rfl ?_)
          | fail)
        refine (add_any n _ _ _ h2 _).mono ?_
        rintro e w1 ⟨rfl, hb1⟩
        have q0 := (r0.below hb1 r0.lt).row_other (k := w.heap.size + 1 + 1 + 1) (by omega) (bw (Wb.addB n (Wb.mulO n f g k) (Wb.mulX n f k) false))
        have q1 := (r1.below hb1 r1.lt).row_other (k := w.heap.size + 1 + 1 + 1) (by omega) (bw (Wb.addB n (Wb.mulO n f g k) (Wb.mulX n f k) false))
        have q2 := (r2.below hb1 r2.lt).row_other (k := w.heap.size + 1 + 1 + 1) (by omega) (bw (Wb.addB n (Wb.mulO n f g k) (Wb.mulX n f k) false))
        have q3 := (r3.below hb1 r3.lt).row_same (Wb.addB n (Wb.mulO n f g k) (Wb.mulX n f k) false)
        have hq : Below w.heap.size w (w1.setRow (w.heap.size + 1 + 1 + 1) (bw (Wb.addB n (Wb.mulO n f g k) (Wb.mulX n f k) false))) := below_setRow (hb.trans (hb1.mono (by have := hb.size; omega))) (by omega) _
        have r3' := r3.below hb1 r3.lt
        clear r0 r1 r2 r3 hb hb1
        go_wp2_with (first
          | (with_reducible refine store_row (.tmp 7) (.tmp 20) _ _ _ r3' rfl rfl rfl rfl ?_)
          | (with_reducible refine load_row (.tmp 4) _ _ q0 rfl rfl rfl ?_)
          | fail)
        refine (up_any n _ _ h1 h2 _).mono ?_
        rintro e w2 ⟨rfl, hb2⟩
        go_wp2_with (first
          | (with_reducible refine store_row (.tmp 4) (.tmp 23) _ _ _ (q0.below hb2 q0.lt) rfl rfl rfl rfl ?_)
          | fail)
        go_roundw
        case rel => exact ⟨k + 1, by omega, by go_num, HX.out ▸ (q0.below hb2 q0.lt).row_same _, (q1.below hb2 q1.lt).row_other (by omega) _, (q2.below hb2 q2.lt).row_other (by omega) _, HO.out ▸ (q3.below hb2 q3.lt).row_other (by omega) _, below_setRow (hq.trans (hb2.mono (by have := hq.size; omega))) (Nat.le_refl _) _⟩
        case measure => (simp [intOf]; try omega)
    · obtain rfl : k = n := by omega
      go_wp2_with (first
        | (with_reducible refine load_row (.tmp 7) _ _ r3 rfl rfl rfl ?_)
        | (with_reducible refine store_row (.tmp 6) (.tmp 24) _ _ _ r2 rfl rfl rfl rfl ?_))
      exact ret_row (p := 6) _ _ (r2.row_same _) Try.results71 rfl rfl ⟨rfl, below_setRow hb (by omega) _⟩

namespace Wb
def movU (n : Nat) (f : Nat → Bool) : Nat → (Nat → Bool)
  | 0 => f
  | k + 1 => upB n (movU n f k) false
def movD (n : Nat) (f : Nat → Bool) (b : Bool) : Nat → (Nat → Bool)
  | 0 => f
  | k + 1 => downB n (movD n f b k) b
end Wb

set_option maxHeartbeats 1000000 in
theorem movedU_any (n : Nat) (f g : Nat → Bool) (h1 : 1 ≤ n) (h2 : n ≤ 64) (w : World) :
    Calls Try.prog 73 #[.int .i64 16, .int .i64 n, .agg (bw f), .agg (bw g)] w fun e w' => e = .returned (.agg (bw (Wb.movU n f (min n (Wb.val g 64))))) ∧ Below w.heap.size w w' := by
  obtain ⟨m, hM⟩ : ∃ m, min n (Wb.val g 64) = m := ⟨_, rfl⟩
  rw [hM]
  have hm : m ≤ 64 := by omega
  have HM := Lib.hid hM
  clear hM
  go_enter Try.func73, Try.ntmps73
  go_wp2
  rw [bw_zero]
  refine gen_world (S := fun W => Row W w.heap.size f ∧ Row W (w.heap.size + 1) g ∧ Row W (w.heap.size + 1 + 1) off ∧ Below w.heap.size w W) ?_ ?_
  · exact ⟨((Row.new w f).alloc _).alloc _, (Row.new_at (w.alloc _) g (by simp)).alloc _, Row.new_at ((w.alloc _).alloc _) off (by simp), below_three⟩
  intro W ⟨r0, r1, r2, hb⟩
  go_loopw [10] (fun i V => ∃ k : Nat, k ≤ m ∧ i = .int .i64 k ∧ Row V w.heap.size (Wb.movU n f k) ∧ Row V (w.heap.size + 1) g ∧ Row V (w.heap.size + 1 + 1) off ∧ Below w.heap.size w V) (fun i _ => m - (intOf i).toNat)
  case atStart => exact ⟨0, Nat.zero_le _, rfl, r0, r1, r2, hb⟩
  case round =>
    clear r0 r1 r2 hb W
    obtain ⟨k, hk, rfl, r0, r1, r2, hb⟩ := hrel
    go_wp2_with (first
      | (with_reducible refine load_row (.tmp 7) _ _ r1 rfl rfl rfl ?_)
      | fail)
    refine (far_any n g h2 _).mono ?_
    rintro e w1 ⟨rfl, hb1⟩
    have q0 := r0.below hb1 r0.lt
    have q1 := r1.below hb1 r1.lt
    have q2 := r2.below hb1 r2.lt
    have hq : Below w.heap.size w w1 := hb.trans (hb1.mono (by have := hb.size; omega))
    clear r0 r1 r2 hb hb1
    rw [HM.out]
    by_cases hlt : k < m
    · have HX := Lib.hid (show Wb.movU n f (k + 1) = Wb.upB n (Wb.movU n f k) false from rfl)
      go_wp2_with (first
        | (with_reducible refine load_row (.tmp 6) _ _ q0 rfl rfl rfl ?_)
        | fail)
      refine (up_any n _ _ h1 h2 _).mono ?_
      rintro e w2 ⟨rfl, hb2⟩
      go_wp2_with (first
        | (with_reducible refine store_row (.tmp 6) (.tmp 30) _ _ _ (q0.below hb2 q0.lt) rfl rfl rfl rfl ?_)
        | fail)
      go_roundw
      case rel => exact ⟨k + 1, by omega, by go_num, HX.out ▸ (q0.below hb2 q0.lt).row_same _, (q1.below hb2 q1.lt).row_other (by omega) _, (q2.below hb2 q2.lt).row_other (by omega) _, below_setRow (hq.trans (hb2.mono (by have := hq.size; omega))) (Nat.le_refl _) _⟩
      case measure => (simp [intOf]; try omega)
    · obtain rfl : k = m := by omega
      go_wp2_with (first
        | (with_reducible refine load_row (.tmp 6) _ _ q0 rfl rfl rfl ?_)
        | (with_reducible refine store_row (.tmp 8) (.tmp 35) _ _ _ q2 rfl rfl rfl rfl ?_))
      exact ret_row (p := 8) _ _ (q2.row_same _) Try.results73 rfl rfl ⟨rfl, below_setRow hq (by omega) _⟩

set_option maxHeartbeats 1000000 in
theorem movedR_any (n : Nat) (f g : Nat → Bool) (h1 : 1 ≤ n) (h2 : n ≤ 64) (w : World) :
    Calls Try.prog 73 #[.int .i64 17, .int .i64 n, .agg (bw f), .agg (bw g)] w fun e w' => e = .returned (.agg (bw (Wb.movD n f false (min n (Wb.val g 64))))) ∧ Below w.heap.size w w' := by
  obtain ⟨m, hM⟩ : ∃ m, min n (Wb.val g 64) = m := ⟨_, rfl⟩
  rw [hM]
  have hm : m ≤ 64 := by omega
  have HM := Lib.hid hM
  clear hM
  go_enter Try.func73, Try.ntmps73
  go_wp2
  rw [bw_zero]
  refine gen_world (S := fun W => Row W w.heap.size f ∧ Row W (w.heap.size + 1) g ∧ Row W (w.heap.size + 1 + 1) off ∧ Below w.heap.size w W) ?_ ?_
  · exact ⟨((Row.new w f).alloc _).alloc _, (Row.new_at (w.alloc _) g (by simp)).alloc _, Row.new_at ((w.alloc _).alloc _) off (by simp), below_three⟩
  intro W ⟨r0, r1, r2, hb⟩
  go_loopw [10] (fun i V => ∃ k : Nat, k ≤ m ∧ i = .int .i64 k ∧ Row V w.heap.size (Wb.movD n f false k) ∧ Row V (w.heap.size + 1) g ∧ Row V (w.heap.size + 1 + 1) off ∧ Below w.heap.size w V) (fun i _ => m - (intOf i).toNat)
  case atStart => exact ⟨0, Nat.zero_le _, rfl, r0, r1, r2, hb⟩
  case round =>
    clear r0 r1 r2 hb W
    obtain ⟨k, hk, rfl, r0, r1, r2, hb⟩ := hrel
    go_wp2_with (first
      | (with_reducible refine load_row (.tmp 7) _ _ r1 rfl rfl rfl ?_)
      | fail)
    refine (far_any n g h2 _).mono ?_
    rintro e w1 ⟨rfl, hb1⟩
    have q0 := r0.below hb1 r0.lt
    have q1 := r1.below hb1 r1.lt
    have q2 := r2.below hb1 r2.lt
    have hq : Below w.heap.size w w1 := hb.trans (hb1.mono (by have := hb.size; omega))
    clear r0 r1 r2 hb hb1
    rw [HM.out]
    by_cases hlt : k < m
    · have HX := Lib.hid (show Wb.movD n f false (k + 1) = Wb.downB n (Wb.movD n f false k) false from rfl)
      go_wp2_with (first
        | (with_reducible refine load_row (.tmp 6) _ _ q0 rfl rfl rfl ?_)
        | fail)
      refine (down_any n _ _ h1 h2 _).mono ?_
      rintro e w2 ⟨rfl, hb2⟩
      go_wp2_with (first
        | (with_reducible refine store_row (.tmp 6) (.tmp 34) _ _ _ (q0.below hb2 q0.lt) rfl rfl rfl rfl ?_)
        | fail)
      go_roundw
      case rel => exact ⟨k + 1, by omega, by go_num, HX.out ▸ (q0.below hb2 q0.lt).row_same _, (q1.below hb2 q1.lt).row_other (by omega) _, (q2.below hb2 q2.lt).row_other (by omega) _, below_setRow (hq.trans (hb2.mono (by have := hq.size; omega))) (Nat.le_refl _) _⟩
      case measure => (simp [intOf]; try omega)
    · obtain rfl : k = m := by omega
      go_wp2_with (first
        | (with_reducible refine load_row (.tmp 6) _ _ q0 rfl rfl rfl ?_)
        | (with_reducible refine store_row (.tmp 8) (.tmp 35) _ _ _ q2 rfl rfl rfl rfl ?_))
      exact ret_row (p := 8) _ _ (q2.row_same _) Try.results73 rfl rfl ⟨rfl, below_setRow hq (by omega) _⟩
set_option maxHeartbeats 1000000 in
theorem movedA_any (n : Nat) (f g : Nat → Bool) (h1 : 1 ≤ n) (h2 : n ≤ 64) (w : World) :
    Calls Try.prog 73 #[.int .i64 18, .int .i64 n, .agg (bw f), .agg (bw g)] w fun e w' => e = .returned (.agg (bw (Wb.movD n f (f (n - 1)) (min n (Wb.val g 64))))) ∧ Below w.heap.size w w' := by
  obtain ⟨m, hM⟩ : ∃ m, min n (Wb.val g 64) = m := ⟨_, rfl⟩
  rw [hM]
  have hm : m ≤ 64 := by omega
  have HM := Lib.hid hM
  obtain ⟨b, hB⟩ : ∃ b, f (n - 1) = b := ⟨_, rfl⟩
  rw [hB]
  have HB := Lib.hid hB
  clear hB
  clear hM
  go_enter Try.func73, Try.ntmps73
  go_upto_region 1 with (fail)
  rw [bw_zero]
  refine gen_world (S := fun W => Row W w.heap.size f ∧ Row W (w.heap.size + 1) g ∧ Row W (w.heap.size + 1 + 1) off ∧ Below w.heap.size w W) ?_ ?_
  · exact ⟨((Row.new w f).alloc _).alloc _, (Row.new_at (w.alloc _) g (by simp)).alloc _, Row.new_at ((w.alloc _).alloc _) off (by simp), below_three⟩
  intro W ⟨r0, r1, r2, hb⟩
  have cc := r0.cell (j := n - 1) (by omega)
  have hc1 : ((n : Int) - 1).toNat = n - 1 := by omega
  have hc2 : 0 ≤ (n : Int) - 1 := by omega
  have hc3 : (n : Int) - 1 < 64 := by omega
  rw [HB.out] at cc
  go_wp2
  clear cc hc1 hc2 hc3
  go_loopw [10] (fun i V => ∃ k : Nat, k ≤ m ∧ i = .int .i64 k ∧ Row V w.heap.size (Wb.movD n f b k) ∧ Row V (w.heap.size + 1) g ∧ Row V (w.heap.size + 1 + 1) off ∧ Below w.heap.size w V) (fun i _ => m - (intOf i).toNat)
  case atStart => exact ⟨0, Nat.zero_le _, rfl, r0, r1, r2, hb⟩
  case round =>
    clear r0 r1 r2 hb W
    obtain ⟨k, hk, rfl, r0, r1, r2, hb⟩ := hrel
    go_wp2_with (first
      | (with_reducible refine load_row (.tmp 7) _ _ r1 rfl rfl rfl ?_)
      | fail)
    refine (far_any n g h2 _).mono ?_
    rintro e w1 ⟨rfl, hb1⟩
    have q0 := r0.below hb1 r0.lt
    have q1 := r1.below hb1 r1.lt
    have q2 := r2.below hb1 r2.lt
    have hq : Below w.heap.size w w1 := hb.trans (hb1.mono (by have := hb.size; omega))
    clear r0 r1 r2 hb hb1
    rw [HM.out]
    by_cases hlt : k < m
    · have HX := Lib.hid (show Wb.movD n f b (k + 1) = Wb.downB n (Wb.movD n f b k) b from rfl)
      go_wp2_with (first
        | (with_reducible refine load_row (.tmp 6) _ _ q0 rfl rfl rfl ?_)
        | fail)
      refine (down_any n _ _ h1 h2 _).mono ?_
      rintro e w2 ⟨rfl, hb2⟩
      go_wp2_with (first
        | (with_reducible refine store_row (.tmp 6) (.tmp 34) _ _ _ (q0.below hb2 q0.lt) rfl rfl rfl rfl ?_)
        | fail)
      go_roundw
      case rel => exact ⟨k + 1, by omega, by go_num, HX.out ▸ (q0.below hb2 q0.lt).row_same _, (q1.below hb2 q1.lt).row_other (by omega) _, (q2.below hb2 q2.lt).row_other (by omega) _, below_setRow (hq.trans (hb2.mono (by have := hq.size; omega))) (Nat.le_refl _) _⟩
      case measure => (simp [intOf]; try omega)
    · obtain rfl : k = m := by omega
      go_wp2_with (first
        | (with_reducible refine load_row (.tmp 6) _ _ q0 rfl rfl rfl ?_)
        | (with_reducible refine store_row (.tmp 8) (.tmp 35) _ _ _ q2 rfl rfl rfl rfl ?_))
      exact ret_row (p := 8) _ _ (q2.row_same _) Try.results73 rfl rfl ⟨rfl, below_setRow hq (by omega) _⟩
end Go.Proofs.Ytbjckcjfambpoaa
namespace Go.Proofs.Ytbjckcjfambpoaa
set_option linter.unusedSimpArgs false
set_option linter.unusedVariables false
set_option maxRecDepth 100000
open Go.RowKit

set_option maxHeartbeats 1000000 in
theorem bitAnd_any (n : Nat) (f g : Nat → Bool) (h2 : n ≤ 64) (w : World) :
    Calls Try.prog 72 #[.int .i64 13, .int .i64 n, .agg (bw f), .agg (bw g)] w fun e w' => e = .returned (.agg (bw (Wb.bitB n and f g))) ∧ Below w.heap.size w w' := by
  go_enter Try.func72, Try.ntmps72
  go_wp2
  rw [bw_zero]
  refine gen_world (S := fun W => Row W w.heap.size f ∧ Row W (w.heap.size + 1) g ∧ Row W (w.heap.size + 1 + 1) off ∧ Row W (w.heap.size + 1 + 1 + 1) off ∧ Below w.heap.size w W) ?_ ?_
  · exact ⟨(((Row.new w f).alloc _).alloc _).alloc _, ((Row.new_at (w.alloc _) g (by simp)).alloc _).alloc _, (Row.new_at ((w.alloc _).alloc _) off (by simp)).alloc _, Row.new_at (((w.alloc _).alloc _).alloc _) off (by simp), below_four⟩
  intro W ⟨r0, r1, r2, r3, hb⟩
  go_loopw [10] (fun i V => ∃ k : Nat, k ≤ n ∧ i = .int .i64 k ∧ Row V w.heap.size f ∧ Row V (w.heap.size + 1) g ∧ Row V (w.heap.size + 1 + 1) off ∧ Row V (w.heap.size + 1 + 1 + 1) (Wb.bitB k and f g) ∧ Below w.heap.size w V) (fun i _ => n - (intOf i).toNat)
  case atStart => exact ⟨0, Nat.zero_le _, rfl, r0, r1, r2, Wb.bitB_zero and f g ▸ r3, hb⟩
  case round =>
    clear r0 r1 r2 r3 hb W
    obtain ⟨k, hk, rfl, r0, r1, r2, r3, hb⟩ := hrel
    by_cases hlt : k < n
    · have c0 := r0.cell (j := k) (by omega)
      have c1 := r1.cell (j := k) (by omega)
      have c3 := r3.cell (j := k) (by omega)
      have z3 := r3.loose k
      have HS := Lib.hid (Wb.bitB_succ and f g k)
      generalize f k = p at *
      generalize g k = q at *
      cases p <;> cases q
      all_goals
        go_wp2
        go_roundw
        case rel => exact ⟨k + 1, by omega, by go_num, r0.set_other (by omega) _ _, r1.set_other (by omega) _ _, r2.set_other (by omega) _ _, HS.out ▸ r3.set_same k _, hb.setCell (by show w.heap.size ≤ w.heap.size + 1 + 1 + 1; omega) _⟩
        case measure => (simp [intOf]; try omega)
    · obtain rfl : k = n := by omega
      go_wp2_with (first
        | (with_reducible refine load_row (.tmp 9) _ _ r3 rfl rfl rfl ?_)
        | (with_reducible refine store_row (.tmp 8) (.tmp 52) _ _ _ r2 rfl rfl rfl rfl ?_))
      exact ret_row (p := 8) _ _ (r2.row_same _) Try.results72 rfl rfl ⟨rfl, below_setRow hb (by omega) _⟩

set_option maxHeartbeats 1000000 in
theorem bitOr_any (n : Nat) (f g : Nat → Bool) (h2 : n ≤ 64) (w : World) :
    Calls Try.prog 72 #[.int .i64 14, .int .i64 n, .agg (bw f), .agg (bw g)] w fun e w' => e = .returned (.agg (bw (Wb.bitB n or f g))) ∧ Below w.heap.size w w' := by
  go_enter Try.func72, Try.ntmps72
  go_wp2
  rw [bw_zero]
  refine gen_world (S := fun W => Row W w.heap.size f ∧ Row W (w.heap.size + 1) g ∧ Row W (w.heap.size + 1 + 1) off ∧ Row W (w.heap.size + 1 + 1 + 1) off ∧ Below w.heap.size w W) ?_ ?_
  · exact ⟨(((Row.new w f).alloc _).alloc _).alloc _, ((Row.new_at (w.alloc _) g (by simp)).alloc _).alloc _, (Row.new_at ((w.alloc _).alloc _) off (by simp)).alloc _, Row.new_at (((w.alloc _).alloc _).alloc _) off (by simp), below_four⟩
  intro W ⟨r0, r1, r2, r3, hb⟩
  go_loopw [10] (fun i V => ∃ k : Nat, k ≤ n ∧ i = .int .i64 k ∧ Row V w.heap.size f ∧ Row V (w.heap.size + 1) g ∧ Row V (w.heap.size + 1 + 1) off ∧ Row V (w.heap.size + 1 + 1 + 1) (Wb.bitB k or f g) ∧ Below w.heap.size w V) (fun i _ => n - (intOf i).toNat)
  case atStart => exact ⟨0, Nat.zero_le _, rfl, r0, r1, r2, Wb.bitB_zero or f g ▸ r3, hb⟩
  case round =>
    clear r0 r1 r2 r3 hb W
    obtain ⟨k, hk, rfl, r0, r1, r2, r3, hb⟩ := hrel
    by_cases hlt : k < n
    · have c0 := r0.cell (j := k) (by omega)
      have c1 := r1.cell (j := k) (by omega)
      have c3 := r3.cell (j := k) (by omega)
      have z3 := r3.loose k
      have HS := Lib.hid (Wb.bitB_succ or f g k)
      generalize f k = p at *
      generalize g k = q at *
      cases p <;> cases q
      all_goals
        go_wp2
        go_roundw
        case rel => exact ⟨k + 1, by omega, by go_num, r0.set_other (by omega) _ _, r1.set_other (by omega) _ _, r2.set_other (by omega) _ _, HS.out ▸ r3.set_same k _, hb.setCell (by show w.heap.size ≤ w.heap.size + 1 + 1 + 1; omega) _⟩
        case measure => (simp [intOf]; try omega)
    · obtain rfl : k = n := by omega
      go_wp2_with (first
        | (with_reducible refine load_row (.tmp 9) _ _ r3 rfl rfl rfl ?_)
        | (with_reducible refine store_row (.tmp 8) (.tmp 52) _ _ _ r2 rfl rfl rfl rfl ?_))
      exact ret_row (p := 8) _ _ (r2.row_same _) Try.results72 rfl rfl ⟨rfl, below_setRow hb (by omega) _⟩

set_option maxHeartbeats 1000000 in
theorem bitXor_any (n : Nat) (f g : Nat → Bool) (h2 : n ≤ 64) (w : World) :
    Calls Try.prog 72 #[.int .i64 15, .int .i64 n, .agg (bw f), .agg (bw g)] w fun e w' => e = .returned (.agg (bw (Wb.bitB n bne f g))) ∧ Below w.heap.size w w' := by
  go_enter Try.func72, Try.ntmps72
  go_wp2
  rw [bw_zero]
  refine gen_world (S := fun W => Row W w.heap.size f ∧ Row W (w.heap.size + 1) g ∧ Row W (w.heap.size + 1 + 1) off ∧ Row W (w.heap.size + 1 + 1 + 1) off ∧ Below w.heap.size w W) ?_ ?_
  · exact ⟨(((Row.new w f).alloc _).alloc _).alloc _, ((Row.new_at (w.alloc _) g (by simp)).alloc _).alloc _, (Row.new_at ((w.alloc _).alloc _) off (by simp)).alloc _, Row.new_at (((w.alloc _).alloc _).alloc _) off (by simp), below_four⟩
  intro W ⟨r0, r1, r2, r3, hb⟩
  go_loopw [10] (fun i V => ∃ k : Nat, k ≤ n ∧ i = .int .i64 k ∧ Row V w.heap.size f ∧ Row V (w.heap.size + 1) g ∧ Row V (w.heap.size + 1 + 1) off ∧ Row V (w.heap.size + 1 + 1 + 1) (Wb.bitB k bne f g) ∧ Below w.heap.size w V) (fun i _ => n - (intOf i).toNat)
  case atStart => exact ⟨0, Nat.zero_le _, rfl, r0, r1, r2, Wb.bitB_zero bne f g ▸ r3, hb⟩
  case round =>
    clear r0 r1 r2 r3 hb W
    obtain ⟨k, hk, rfl, r0, r1, r2, r3, hb⟩ := hrel
    by_cases hlt : k < n
    · have c0 := r0.cell (j := k) (by omega)
      have c1 := r1.cell (j := k) (by omega)
      have c3 := r3.cell (j := k) (by omega)
      have z3 := r3.loose k
      have HS := Lib.hid (Wb.bitB_succ bne f g k)
      generalize f k = p at *
      generalize g k = q at *
      cases p <;> cases q
      all_goals
        go_wp2
        go_region
        all_goals go_wp2
        go_roundw
        case rel => exact ⟨k + 1, by omega, by go_num, r0.set_other (by omega) _ _, r1.set_other (by omega) _ _, r2.set_other (by omega) _ _, HS.out ▸ r3.set_same k _, Below.drew (hb.setCell (by show w.heap.size ≤ w.heap.size + 1 + 1 + 1; omega) _)⟩
        case measure => (simp [intOf]; try omega)
    · obtain rfl : k = n := by omega
      go_wp2_with (first
        | (with_reducible refine load_row (.tmp 9) _ _ r3 rfl rfl rfl ?_)
        | (with_reducible refine store_row (.tmp 8) (.tmp 52) _ _ _ r2 rfl rfl rfl rfl ?_))
      exact ret_row (p := 8) _ _ (r2.row_same _) Try.results72 rfl rfl ⟨rfl, below_setRow hb (by omega) _⟩
end Go.Proofs.Ytbjckcjfambpoaa
