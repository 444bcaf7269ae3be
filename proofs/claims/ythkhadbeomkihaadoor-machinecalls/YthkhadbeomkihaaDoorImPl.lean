/-
  Layer 3 as plain functions: images, whether they are right, their bytes, and what bytes tell.
-/
import Derived.Test.YthkhadbeomkihaaDoorCdG0
namespace Go.Proofs.YthkhadbeomkihaaDoor
set_option maxRecDepth 100000
namespace Im

/-- An instruction, and an image. -/
structure I5 where
  op : Int
  a : Int
  b : Int
  c : Int
  m : Int
def z5 : I5 := ⟨0, 0, 0, 0, 0⟩
structure Pic where
  mem : Int
  stk : Int
  inp : Int
  ds : List Int
  fs : List Int
  cs : List I5

/-- Where function n ends. -/
def till (fs : List Int) (nc n : Nat) : Int := fs.getD (n + 1) nc
def Places (fs : List Int) (nc : Nat) : Prop := fs.getD 0 0 = 0 ∧ (∀ k, k < fs.length - 1 → fs.getD k 0 < fs.getD (k + 1) 0) ∧ fs.getD (fs.length - 1) 0 < nc
instance (fs : List Int) (nc : Nat) : Decidable (Places fs nc) := by unfold Places; infer_instance
def Cnt (p : Pic) : Prop := (0 ≤ p.mem ∧ p.mem ≤ 64) ∧ (0 ≤ p.stk ∧ p.stk ≤ 16) ∧ (0 ≤ p.inp ∧ p.inp ≤ 16) ∧ (p.ds.length : Int) ≤ p.mem ∧ (1 ≤ p.fs.length ∧ p.fs.length ≤ 16) ∧ (1 ≤ p.cs.length ∧ p.cs.length ≤ 256) ∧ Places p.fs p.cs.length
instance (p : Pic) : Decidable (Cnt p) := by unfold Cnt; infer_instance

/-- Does what an instruction names lie where it should? -/
def leads (i : I5) (fr to : Int) (nf : Nat) : Bool := if i.op = 21 ∨ i.op = 22 then decide (fr ≤ i.m) && decide (i.m < to) else if i.op = 23 then decide (i.m < nf) else true
/-- The function that has a place. -/
def own (fs : List Int) (nc : Nat) (p : Int) : Nat := (List.range fs.length).findIdx fun n => decide (fs.getD n 0 ≤ p) && decide (p < till fs nc n)
def okB (fs : List Int) (cs : List I5) (k : Nat) : Bool :=
  leads (cs.getD k z5) (fs.getD (own fs cs.length k) 0) (till fs cs.length (own fs cs.length k)) fs.length && !(Cd.goes (cs.getD k z5).op && decide ((k : Int) + 1 = till fs cs.length (own fs cs.length k)))
/-- The first instruction by which it doesn't flow; as many as there are, if it flows. -/
def stray (fs : List Int) (cs : List I5) : Nat := (List.range cs.length).findIdx fun k => !okB fs cs k

def flI (fs : List Int) (cs : List I5) : Int := if stray fs cs < cs.length then stray fs cs else 0
def flB (fs : List Int) (cs : List I5) : Bool := decide (stray fs cs < cs.length)

def bad5 (i : I5) : Int := Cd.bad i.op i.a i.b i.c i.m
def bts5 (i : I5) : List Int := Cd.bts i.op i.a i.b i.c i.m
def firstE : List I5 → Int
  | [] => 0
  | i :: r => if bad5 i = -1 then firstE r else Cd.er (bad5 i)
def two (x : Int) : List Int := [x / 256, x % 256]
def head (p : Pic) : List Int := [82, 66, 54, 52, 1, p.mem, p.stk, p.inp, p.ds.length] ++ p.ds ++ [(p.fs.length : Int)] ++ p.fs.flatMap two ++ two p.cs.length
def enc (p : Pic) : List Int := head p ++ p.cs.flatMap bts5
def chk (p : Pic) : Int := if Cnt p then (if firstE p.cs = 0 then (if stray p.fs p.cs < p.cs.length then 7 else 0) else firstE p.cs) else 3
def out (p : Pic) : List Int := if chk p = 0 then enc p else []

/-! ### First places -/
theorem first_at {n k : Nat} {f : Nat → Bool} (hk : k < n) (h : f k = true) (hn : ∀ j, j < k → f j = false) : (List.range n).findIdx f = k := by
  rw [List.findIdx_eq (by simpa using hk)]
  refine ⟨by simpa using h, fun j hj => ?_⟩
  simpa using hn j hj
theorem first_none {n : Nat} {f : Nat → Bool} (hn : ∀ j, j < n → f j = false) : (List.range n).findIdx f = n := by
  have := List.findIdx_eq_length (p := f) (xs := List.range n)
  rw [List.length_range] at this
  rw [this]
  intro x hx
  simpa using hn x (by simpa using hx)
theorem first_le {n : Nat} {f : Nat → Bool} : (List.range n).findIdx f ≤ n := by
  have := List.findIdx_le_length (p := f) (xs := List.range n)
  simpa using this
theorem first_cases (n : Nat) (f : Nat → Bool) : (∃ k, k < n ∧ f k = true ∧ (∀ j, j < k → f j = false) ∧ (List.range n).findIdx f = k) ∨ ((∀ j, j < n → f j = false) ∧ (List.range n).findIdx f = n) := by
  rcases Nat.lt_or_ge ((List.range n).findIdx f) n with h | h
  · left
    have hl : (List.range n).findIdx f < (List.range n).length := by simpa using h
    refine ⟨_, h, ?_, fun j hj => ?_, rfl⟩
    · have := List.findIdx_getElem (p := f) (xs := List.range n) (w := hl)
      simpa using this
    · have := List.not_of_lt_findIdx (p := f) (xs := List.range n) hj
      simpa using this
  · right
    have he : (List.range n).findIdx f = n := Nat.le_antisymm first_le h
    refine ⟨fun j hj => ?_, he⟩
    have := List.not_of_lt_findIdx (p := f) (xs := List.range n) (i := j) (by omega)
    simpa using this

/-! ### Functions of places -/
theorem Places.mono {fs : List Int} {nc : Nat} (h : Places fs nc) : ∀ d k, k + d < fs.length → fs.getD k 0 ≤ fs.getD (k + d) 0 := by
  intro d
  induction d with
  | zero => intro k _; exact Int.le_refl _
  | succ d ih =>
    intro k hk
    have h1 := ih k (by omega)
    have h2 := h.2.1 (k + d) (by omega)
    rw [show k + (d + 1) = k + d + 1 from rfl]
    omega
theorem Places.nonneg {fs : List Int} {nc : Nat} (h : Places fs nc) {k : Nat} (hk : k < fs.length) : 0 ≤ fs.getD k 0 := by
  have := h.mono k 0 (by omega)
  rw [h.1, Nat.zero_add] at this
  exact this
theorem getD_irrel {α : Type} {fs : List α} {k : Nat} {a b : α} (h : k < fs.length) : fs.getD k a = fs.getD k b := by
  rw [List.getD_eq_getElem?_getD, List.getD_eq_getElem?_getD, List.getElem?_eq_getElem h]; rfl
theorem getD_past {α : Type} {fs : List α} {k : Nat} {a : α} (h : fs.length ≤ k) : fs.getD k a = a := by
  rw [List.getD_eq_getElem?_getD, List.getElem?_eq_none h]; rfl
theorem till_in {fs : List Int} {nc n : Nat} (h : n + 1 < fs.length) : till fs nc n = fs.getD (n + 1) 0 := getD_irrel h
theorem till_last {fs : List Int} {nc n : Nat} (h : fs.length ≤ n + 1) : till fs nc n = nc := getD_past h
theorem Places.lt_till {fs : List Int} {nc : Nat} (h : Places fs nc) {n : Nat} (hn : n < fs.length) : fs.getD n 0 < till fs nc n := by
  rcases Nat.lt_or_ge (n + 1) fs.length with h1 | h1
  · rw [till_in h1]; exact h.2.1 n (by omega)
  · rw [till_last h1]
    have := h.2.2
    rwa [show fs.length - 1 = n by omega] at this
theorem Places.till_le {fs : List Int} {nc : Nat} (h : Places fs nc) {n : Nat} (hn : n < fs.length) : till fs nc n ≤ nc := by
  rcases Nat.lt_or_ge (n + 1) fs.length with h1 | h1
  · rw [till_in h1]
    have h2 := h.mono (fs.length - 1 - (n + 1)) (n + 1) (by omega)
    rw [show n + 1 + (fs.length - 1 - (n + 1)) = fs.length - 1 by omega] at h2
    have := h.2.2
    omega
  · rw [till_last h1]; exact Int.le_refl _
theorem Places.apart {fs : List Int} {nc : Nat} (h : Places fs nc) {n k : Nat} (hn : n < fs.length) (hk : k < n) : till fs nc k ≤ fs.getD n 0 := by
  rw [till_in (by omega)]
  have := h.mono (n - (k + 1)) (k + 1) (by omega)
  rwa [show k + 1 + (n - (k + 1)) = n by omega] at this
theorem own_eq {fs : List Int} {nc : Nat} (h : Places fs nc) {n : Nat} {p : Int} (hn : n < fs.length) (h1 : fs.getD n 0 ≤ p) (h2 : p < till fs nc n) : own fs nc p = n := by
  unfold own
  refine first_at hn (by simp only [h1, h2, decide_true, Bool.and_self]) fun j hj => ?_
  have := h.apart hn hj
  simp only [Bool.and_eq_false_iff, decide_eq_false_iff_not]
  exact .inr (by omega)
theorem own_ex {fs : List Int} {nc : Nat} (h : Places fs nc) (hl : 1 ≤ fs.length) {p : Int} (h0 : 0 ≤ p) (h1 : p < nc) : ∃ n, n < fs.length ∧ fs.getD n 0 ≤ p ∧ p < till fs nc n := by
  have key : ∀ k, k ≤ fs.length → (∃ n, n < k ∧ fs.getD n 0 ≤ p ∧ p < till fs nc n) ∨ fs.getD k nc ≤ p := by
    intro k
    induction k with
    | zero => intro _; right; rw [getD_irrel (b := 0) (by omega), h.1]; exact h0
    | succ k ih =>
      intro hk
      rcases ih (by omega) with ⟨n, hn, h2, h3⟩ | h2
      · exact .inl ⟨n, by omega, h2, h3⟩
      · rcases Int.lt_or_le p (fs.getD (k + 1) nc) with h3 | h3
        · rw [getD_irrel (b := 0) (by omega)] at h2
          exact .inl ⟨k, by omega, h2, h3⟩
        · exact .inr h3
  rcases key fs.length (Nat.le_refl _) with h2 | h2
  · exact h2
  · rw [getD_past (Nat.le_refl _)] at h2
    omega
theorem own_spec {fs : List Int} {nc : Nat} (h : Places fs nc) (hl : 1 ≤ fs.length) {p : Int} (h0 : 0 ≤ p) (h1 : p < nc) : own fs nc p < fs.length ∧ fs.getD (own fs nc p) 0 ≤ p ∧ p < till fs nc (own fs nc p) := by
  obtain ⟨n, hn, h2, h3⟩ := own_ex h hl h0 h1
  rw [own_eq h hn h2 h3]
  exact ⟨hn, h2, h3⟩
/-- What okB says at a place whose function is known. -/
theorem okB_eq {fs : List Int} {cs : List I5} {n k : Nat} {i : I5} (h : Places fs cs.length) (hn : n < fs.length) (h1 : fs.getD n 0 ≤ (k : Int)) (h2 : (k : Int) < till fs cs.length n) (hi : cs.getD k z5 = i) :
    okB fs cs k = (leads i (fs.getD n 0) (till fs cs.length n) fs.length && !(Cd.goes i.op && decide ((k : Int) + 1 = till fs cs.length n))) := by
  unfold okB
  rw [own_eq h hn h1 h2, hi]
theorem stray_at {fs : List Int} {cs : List I5} {k : Nat} (hk : k < cs.length) (h : okB fs cs k = false) (hn : ∀ j, j < k → okB fs cs j = true) : stray fs cs = k :=
  first_at hk (by rw [h]; rfl) fun j hj => by rw [hn j hj]; rfl
theorem stray_none {fs : List Int} {cs : List I5} (hn : ∀ j, j < cs.length → okB fs cs j = true) : stray fs cs = cs.length :=
  first_none fun j hj => by rw [hn j hj]; rfl
theorem stray_le (fs : List Int) (cs : List I5) : stray fs cs ≤ cs.length := first_le
theorem stray_ok {fs : List Int} {cs : List I5} (h : ¬ stray fs cs < cs.length) : ∀ j, j < cs.length → okB fs cs j = true := by
  rcases first_cases cs.length (fun k => !okB fs cs k) with ⟨k, hk, _, _, he⟩ | ⟨hn, _⟩
  · exact absurd (show stray fs cs < cs.length by unfold stray; rw [he]; exact hk) h
  · intro j hj
    have := hn j hj
    simpa using this
theorem fl_at {fs : List Int} {cs : List I5} {k : Nat} (hk : k < cs.length) (h : okB fs cs k = false) (hn : ∀ j, j < k → okB fs cs j = true) : flI fs cs = k ∧ flB fs cs = true := by
  unfold flI flB
  rw [stray_at hk h hn, if_pos hk]
  exact ⟨rfl, decide_eq_true hk⟩
theorem fl_none {fs : List Int} {cs : List I5} (hn : ∀ j, j < cs.length → okB fs cs j = true) : flI fs cs = 0 ∧ flB fs cs = false := by
  unfold flI flB
  rw [stray_none hn, if_neg (Nat.lt_irrefl _)]
  exact ⟨rfl, decide_eq_false (Nat.lt_irrefl _)⟩
theorem firstE_at : ∀ (cs : List I5) (k : Nat), k < cs.length → (∀ j, j < k → bad5 (cs.getD j z5) = -1) → bad5 (cs.getD k z5) ≠ -1 → firstE cs = Cd.er (bad5 (cs.getD k z5))
  | [], _, h, _, _ => absurd h (by simp)
  | i :: r, 0, _, _, hb => by
    unfold firstE
    rw [List.getD_cons_zero] at hb ⊢
    rw [if_neg hb]
  | i :: r, k + 1, hk, hn, hb => by
    unfold firstE
    have h0 := hn 0 (by omega)
    rw [List.getD_cons_zero] at h0
    rw [if_pos h0, List.getD_cons_succ]
    exact firstE_at r k (by simpa using hk) (fun j hj => by have := hn (j + 1) (by omega); rwa [List.getD_cons_succ] at this) (by rwa [List.getD_cons_succ] at hb)
theorem firstE_none : ∀ (cs : List I5), (∀ j, j < cs.length → bad5 (cs.getD j z5) = -1) → firstE cs = 0
  | [], _ => rfl
  | i :: r, h => by
    unfold firstE
    have h0 := h 0 (by simp)
    rw [List.getD_cons_zero] at h0
    rw [if_pos h0]
    exact firstE_none r fun j hj => by have := h (j + 1) (by simpa using hj); rwa [List.getD_cons_succ] at this
theorem er_ne {k : Int} (h : k ≠ -1) : Cd.er k ≠ 0 := by
  unfold Cd.er
  split
  · decide
  · first | decide | (rw [if_neg h]; decide)
theorem firstE_zero : ∀ (cs : List I5), firstE cs = 0 → ∀ j, j < cs.length → bad5 (cs.getD j z5) = -1
  | [], _, _, hj => absurd hj (by simp)
  | i :: r, h, j, hj => by
    unfold firstE at h
    by_cases hb : bad5 i = -1
    · rw [if_pos hb] at h
      match j, hj with
      | 0, _ => simpa using hb
      | j + 1, hj => rw [List.getD_cons_succ]; exact firstE_zero r h j (by simpa using hj)
    · rw [if_neg hb] at h
      exact absurd h (er_ne hb)
end Im
end Go.Proofs.YthkhadbeomkihaaDoor
