/-
  Layer 3 as plain functions: images, whether they are right, their bytes, and what bytes tell.
  Slices of integers and of instructions in memory; contracts of image's small functions: within, leadsRight, reach, placesRight, countsRight.
  Contracts of placesRight and countsRight.
  Contracts of flaw and Fun.
  Contracts of Fun and appendTwo.
  The contract of head: an image's bytes ahead of its instructions'.
  The contract of Encode.
-/
import Derived.Test.YtfhnigfghfmolaaDoorGA
import Derived.Lib.SmallJoins
import Derived.ArgAppend
import Derived.Deep.Cut
set_option linter.unusedSimpArgs false
set_option linter.unusedVariables false
namespace Go.Proofs.YtfhnigfghfmolaaDoor
set_option maxRecDepth 100000
namespace Im

/-- An instruction, and an image. -/
structure I5 where
  op : Int
  a : Int
  b : Int
  c : Int
  m : Int
def z5 : I5 := ⟨0, 0, 0, 0, 0⟩
structure Pic where
  mem : Int
  stk : Int
  inp : Int
  ds : List Int
  fs : List Int
  cs : List I5

/-- Where function n ends. -/
def till (fs : List Int) (nc n : Nat) : Int := fs.getD (n + 1) nc
def Places (fs : List Int) (nc : Nat) : Prop := fs.getD 0 0 = 0 ∧ (∀ k, k < fs.length - 1 → fs.getD k 0 < fs.getD (k + 1) 0) ∧ fs.getD (fs.length - 1) 0 < nc
instance (fs : List Int) (nc : Nat) : Decidable (Places fs nc) := by unfold Places; infer_instance
def Cnt (p : Pic) : Prop := (0 ≤ p.mem ∧ p.mem ≤ 64) ∧ (0 ≤ p.stk ∧ p.stk ≤ 16) ∧ (0 ≤ p.inp ∧ p.inp ≤ 16) ∧ (p.ds.length : Int) ≤ p.mem ∧ (1 ≤ p.fs.length ∧ p.fs.length ≤ 16) ∧ (1 ≤ p.cs.length ∧ p.cs.length ≤ 256) ∧ Places p.fs p.cs.length
instance (p : Pic) : Decidable (Cnt p) := by unfold Cnt; infer_instance

/-- Does what an instruction names lie where it should? -/
def leads (i : I5) (fr to : Int) (nf : Nat) : Bool := if i.op = 21 ∨ i.op = 22 then decide (fr ≤ i.m) && decide (i.m < to) else if i.op = 23 then decide (i.m < nf) else true
/-- The function that has a place. -/
def own (fs : List Int) (nc : Nat) (p : Int) : Nat := (List.range fs.length).findIdx fun n => decide (fs.getD n 0 ≤ p) && decide (p < till fs nc n)
def okB (fs : List Int) (cs : List I5) (k : Nat) : Bool :=
  leads (cs.getD k z5) (fs.getD (own fs cs.length k) 0) (till fs cs.length (own fs cs.length k)) fs.length && !(Cd.goes (cs.getD k z5).op && decide ((k : Int) + 1 = till fs cs.length (own fs cs.length k)))
/-- The first instruction by which it doesn't flow; as many as there are, if it flows. -/
def stray (fs : List Int) (cs : List I5) : Nat := (List.range cs.length).findIdx fun k => !okB fs cs k

def flI (fs : List Int) (cs : List I5) : Int := if stray fs cs < cs.length then stray fs cs else 0
def flB (fs : List Int) (cs : List I5) : Bool := decide (stray fs cs < cs.length)

def bad5 (i : I5) : Int := Cd.bad i.op i.a i.b i.c i.m
def bts5 (i : I5) : List Int := Cd.bts i.op i.a i.b i.c i.m
def firstE : List I5 → Int
  | [] => 0
  | i :: r => if bad5 i = -1 then firstE r else Cd.er (bad5 i)
def two (x : Int) : List Int := [x / 256, x % 256]
def head (p : Pic) : List Int := [82, 66, 54, 52, 1, p.mem, p.stk, p.inp, p.ds.length] ++ p.ds ++ [(p.fs.length : Int)] ++ p.fs.flatMap two ++ two p.cs.length
def enc (p : Pic) : List Int := head p ++ p.cs.flatMap bts5
def chk (p : Pic) : Int := if Cnt p then (if firstE p.cs = 0 then (if stray p.fs p.cs < p.cs.length then 7 else 0) else firstE p.cs) else 3
def out (p : Pic) : List Int := if chk p = 0 then enc p else []

/-! ### First places -/
theorem first_at {n k : Nat} {f : Nat → Bool} (hk : k < n) (h : f k = true) (hn : ∀ j, j < k → f j = false) : (List.range n).findIdx f = k := by
  rw [List.findIdx_eq (by simpa using hk)]
  refine ⟨by simpa using h, fun j hj => ?_⟩
  simpa using hn j hj
theorem first_none {n : Nat} {f : Nat → Bool} (hn : ∀ j, j < n → f j = false) : (List.range n).findIdx f = n := by
  have := List.findIdx_eq_length (p := f) (xs := List.range n)
  rw [List.length_range] at this
  rw [this]
  intro x hx
  simpa using hn x (by simpa using hx)
theorem first_le {n : Nat} {f : Nat → Bool} : (List.range n).findIdx f ≤ n := by
  have := List.findIdx_le_length (p := f) (xs := List.range n)
  simpa using this
theorem first_cases (n : Nat) (f : Nat → Bool) : (∃ k, k < n ∧ f k = true ∧ (∀ j, j < k → f j = false) ∧ (List.range n).findIdx f = k) ∨ ((∀ j, j < n → f j = false) ∧ (List.range n).findIdx f = n) := by
  rcases Nat.lt_or_ge ((List.range n).findIdx f) n with h | h
  · left
    have hl : (List.range n).findIdx f < (List.range n).length := by simpa using h
    refine ⟨_, h, ?_, fun j hj => ?_, rfl⟩
    · have := List.findIdx_getElem (p := f) (xs := List.range n) (w := hl)
      simpa using this
    · have := List.not_of_lt_findIdx (p := f) (xs := List.range n) hj
      simpa using this
  · right
    have he : (List.range n).findIdx f = n := Nat.le_antisymm first_le h
    refine ⟨fun j hj => ?_, he⟩
    have := List.not_of_lt_findIdx (p := f) (xs := List.range n) (i := j) (by omega)
    simpa using this

/-! ### Functions of places -/
theorem Places.mono {fs : List Int} {nc : Nat} (h : Places fs nc) : ∀ d k, k + d < fs.length → fs.getD k 0 ≤ fs.getD (k + d) 0 := by
  intro d
  induction d with
  | zero => intro k _; exact Int.le_refl _
  | succ d ih =>
    intro k hk
    have h1 := ih k (by omega)
    have h2 := h.2.1 (k + d) (by omega)
    rw [show k + (d + 1) = k + d + 1 from rfl]
    omega
theorem Places.nonneg {fs : List Int} {nc : Nat} (h : Places fs nc) {k : Nat} (hk : k < fs.length) : 0 ≤ fs.getD k 0 := by
  have := h.mono k 0 (by omega)
  rw [h.1, Nat.zero_add] at this
  exact this
theorem getD_irrel {α : Type} {fs : List α} {k : Nat} {a b : α} (h : k < fs.length) : fs.getD k a = fs.getD k b := by
  rw [List.getD_eq_getElem?_getD, List.getD_eq_getElem?_getD, List.getElem?_eq_getElem h]; rfl
theorem getD_past {α : Type} {fs : List α} {k : Nat} {a : α} (h : fs.length ≤ k) : fs.getD k a = a := by
  rw [List.getD_eq_getElem?_getD, List.getElem?_eq_none h]; rfl
theorem till_in {fs : List Int} {nc n : Nat} (h : n + 1 < fs.length) : till fs nc n = fs.getD (n + 1) 0 := getD_irrel h
theorem till_last {fs : List Int} {nc n : Nat} (h : fs.length ≤ n + 1) : till fs nc n = nc := getD_past h
theorem Places.lt_till {fs : List Int} {nc : Nat} (h : Places fs nc) {n : Nat} (hn : n < fs.length) : fs.getD n 0 < till fs nc n := by
  rcases Nat.lt_or_ge (n + 1) fs.length with h1 | h1
  · rw [till_in h1]; exact h.2.1 n (by omega)
  · rw [till_last h1]
    have := h.2.2
    rwa [show fs.length - 1 = n by omega] at this
theorem Places.till_le {fs : List Int} {nc : Nat} (h : Places fs nc) {n : Nat} (hn : n < fs.length) : till fs nc n ≤ nc := by
  rcases Nat.lt_or_ge (n + 1) fs.length with h1 | h1
  · rw [till_in h1]
    have h2 := h.mono (fs.length - 1 - (n + 1)) (n + 1) (by omega)
    rw [show n + 1 + (fs.length - 1 - (n + 1)) = fs.length - 1 by omega] at h2
    have := h.2.2
    omega
  · rw [till_last h1]; exact Int.le_refl _
theorem Places.apart {fs : List Int} {nc : Nat} (h : Places fs nc) {n k : Nat} (hn : n < fs.length) (hk : k < n) : till fs nc k ≤ fs.getD n 0 := by
  rw [till_in (by omega)]
  have := h.mono (n - (k + 1)) (k + 1) (by omega)
  rwa [show k + 1 + (n - (k + 1)) = n by omega] at this
theorem own_eq {fs : List Int} {nc : Nat} (h : Places fs nc) {n : Nat} {p : Int} (hn : n < fs.length) (h1 : fs.getD n 0 ≤ p) (h2 : p < till fs nc n) : own fs nc p = n := by
  unfold own
  refine first_at hn (by simp only [h1, h2, decide_true, Bool.and_self]) fun j hj => ?_
  have := h.apart hn hj
  simp only [Bool.and_eq_false_iff, decide_eq_false_iff_not]
  exact .inr (by omega)
theorem own_ex {fs : List Int} {nc : Nat} (h : Places fs nc) (hl : 1 ≤ fs.length) {p : Int} (h0 : 0 ≤ p) (h1 : p < nc) : ∃ n, n < fs.length ∧ fs.getD n 0 ≤ p ∧ p < till fs nc n := by
  have key : ∀ k, k ≤ fs.length → (∃ n, n < k ∧ fs.getD n 0 ≤ p ∧ p < till fs nc n) ∨ fs.getD k nc ≤ p := by
    intro k
    induction k with
    | zero => intro _; right; rw [getD_irrel (b := 0) (by omega), h.1]; exact h0
    | succ k ih =>
      intro hk
      rcases ih (by omega) with ⟨n, hn, h2, h3⟩ | h2
      · exact .inl ⟨n, by omega, h2, h3⟩
      · rcases Int.lt_or_le p (fs.getD (k + 1) nc) with h3 | h3
        · rw [getD_irrel (b := 0) (by omega)] at h2
          exact .inl ⟨k, by omega, h2, h3⟩
        · exact .inr h3
  rcases key fs.length (Nat.le_refl _) with h2 | h2
  · exact h2
  · rw [getD_past (Nat.le_refl _)] at h2
    omega
theorem own_spec {fs : List Int} {nc : Nat} (h : Places fs nc) (hl : 1 ≤ fs.length) {p : Int} (h0 : 0 ≤ p) (h1 : p < nc) : own fs nc p < fs.length ∧ fs.getD (own fs nc p) 0 ≤ p ∧ p < till fs nc (own fs nc p) := by
  obtain ⟨n, hn, h2, h3⟩ := own_ex h hl h0 h1
  rw [own_eq h hn h2 h3]
  exact ⟨hn, h2, h3⟩
/-- What okB says at a place whose function is known. -/
theorem okB_eq {fs : List Int} {cs : List I5} {n k : Nat} {i : I5} (h : Places fs cs.length) (hn : n < fs.length) (h1 : fs.getD n 0 ≤ (k : Int)) (h2 : (k : Int) < till fs cs.length n) (hi : cs.getD k z5 = i) :
    okB fs cs k = (leads i (fs.getD n 0) (till fs cs.length n) fs.length && !(Cd.goes i.op && decide ((k : Int) + 1 = till fs cs.length n))) := by
  unfold okB
  rw [own_eq h hn h1 h2, hi]
theorem stray_at {fs : List Int} {cs : List I5} {k : Nat} (hk : k < cs.length) (h : okB fs cs k = false) (hn : ∀ j, j < k → okB fs cs j = true) : stray fs cs = k :=
  first_at hk (by rw [h]; rfl) fun j hj => by rw [hn j hj]; rfl
theorem stray_none {fs : List Int} {cs : List I5} (hn : ∀ j, j < cs.length → okB fs cs j = true) : stray fs cs = cs.length :=
  first_none fun j hj => by rw [hn j hj]; rfl
theorem stray_le (fs : List Int) (cs : List I5) : stray fs cs ≤ cs.length := first_le
theorem stray_ok {fs : List Int} {cs : List I5} (h : ¬ stray fs cs < cs.length) : ∀ j, j < cs.length → okB fs cs j = true := by
  rcases first_cases cs.length (fun k => !okB fs cs k) with ⟨k, hk, _, _, he⟩ | ⟨hn, _⟩
  · exact absurd (show stray fs cs < cs.length by unfold stray; rw [he]; exact hk) h
  · intro j hj
    have := hn j hj
    simpa using this
theorem fl_at {fs : List Int} {cs : List I5} {k : Nat} (hk : k < cs.length) (h : okB fs cs k = false) (hn : ∀ j, j < k → okB fs cs j = true) : flI fs cs = k ∧ flB fs cs = true := by
  unfold flI flB
  rw [stray_at hk h hn, if_pos hk]
  exact ⟨rfl, decide_eq_true hk⟩
theorem fl_none {fs : List Int} {cs : List I5} (hn : ∀ j, j < cs.length → okB fs cs j = true) : flI fs cs = 0 ∧ flB fs cs = false := by
  unfold flI flB
  rw [stray_none hn, if_neg (Nat.lt_irrefl _)]
  exact ⟨rfl, decide_eq_false (Nat.lt_irrefl _)⟩
theorem firstE_at : ∀ (cs : List I5) (k : Nat), k < cs.length → (∀ j, j < k → bad5 (cs.getD j z5) = -1) → bad5 (cs.getD k z5) ≠ -1 → firstE cs = Cd.er (bad5 (cs.getD k z5))
  | [], _, h, _, _ => absurd h (by simp)
  | i :: r, 0, _, _, hb => by
    unfold firstE
    rw [List.getD_cons_zero] at hb ⊢
    rw [if_neg hb]
  | i :: r, k + 1, hk, hn, hb => by
    unfold firstE
    have h0 := hn 0 (by omega)
    rw [List.getD_cons_zero] at h0
    rw [if_pos h0, List.getD_cons_succ]
    exact firstE_at r k (by simpa using hk) (fun j hj => by have := hn (j + 1) (by omega); rwa [List.getD_cons_succ] at this) (by rwa [List.getD_cons_succ] at hb)
theorem firstE_none : ∀ (cs : List I5), (∀ j, j < cs.length → bad5 (cs.getD j z5) = -1) → firstE cs = 0
  | [], _ => rfl
  | i :: r, h => by
    unfold firstE
    have h0 := h 0 (by simp)
    rw [List.getD_cons_zero] at h0
    rw [if_pos h0]
    exact firstE_none r fun j hj => by have := h (j + 1) (by simpa using hj); rwa [List.getD_cons_succ] at this
theorem er_ne {k : Int} (h : k ≠ -1) : Cd.er k ≠ 0 := by
  unfold Cd.er
  split
  · decide
  · first | decide | (rw [if_neg h]; decide)
theorem firstE_zero : ∀ (cs : List I5), firstE cs = 0 → ∀ j, j < cs.length → bad5 (cs.getD j z5) = -1
  | [], _, _, hj => absurd hj (by simp)
  | i :: r, h, j, hj => by
    unfold firstE at h
    by_cases hb : bad5 i = -1
    · rw [if_pos hb] at h
      match j, hj with
      | 0, _ => simpa using hb
      | j + 1, hj => rw [List.getD_cons_succ]; exact firstE_zero r h j (by simpa using hj)
    · rw [if_neg hb] at h
      exact absurd h (er_ne hb)
end Im
end Go.Proofs.YtfhnigfghfmolaaDoor
namespace Go.Proofs.YtfhnigfghfmolaaDoor
set_option maxRecDepth 100000
open Go.RowKit

/-- A slice of integers, and one of instructions, five cells each. -/
structure InSl (w : World) (A : Option Addr) (len cap : Nat) (xs : List Int) : Prop where
  hlen : xs.length = len
  hle : len ≤ cap
  hcap : cap ≤ maxLen
  hnone : A = none → len = 0
  mem : 0 < len → ∃ b o, A = some ⟨b, o, none⟩ ∧ b < w.heap.size ∧ ∀ i, i < len → w.cell? ⟨b, o + i, none⟩ = some (.int .i64 (xs.getD i 0))
def InsAt (w : World) (b o : Nat) (i : Im.I5) : Prop := w.cell? ⟨b, o, none⟩ = some (.int .i64 i.op) ∧ w.cell? ⟨b, o + 1, none⟩ = some (.int .i64 i.a) ∧ w.cell? ⟨b, o + 2, none⟩ = some (.int .i64 i.b) ∧ w.cell? ⟨b, o + 3, none⟩ = some (.int .i64 i.c) ∧ w.cell? ⟨b, o + 4, none⟩ = some (.int .u64 i.m)
structure CoSl (w : World) (A : Option Addr) (len cap : Nat) (cs : List Im.I5) : Prop where
  hlen : cs.length = len
  hle : len ≤ cap
  hcap : cap ≤ maxLen
  hnone : A = none → len = 0
  rng : ∀ i, 0 ≤ (cs.getD i Im.z5).m ∧ (cs.getD i Im.z5).m < 18446744073709551616
  mem : 0 < len → ∃ b o, A = some ⟨b, o, none⟩ ∧ b < w.heap.size ∧ ∀ i, i < len → InsAt w b (o + i * 5) (cs.getD i Im.z5)
theorem InSl.below {w w' : World} {A : Option Addr} {len cap : Nat} {xs : List Int} (h : InSl w A len cap xs) (hb : Below w.heap.size w w') : InSl w' A len cap xs :=
  ⟨h.hlen, h.hle, h.hcap, h.hnone, fun h0 => by
    obtain ⟨b, o, e, hlt, hx⟩ := h.mem h0
    exact ⟨b, o, e, Nat.lt_of_lt_of_le hlt hb.size, fun i hi => (hb.cell (p := ⟨b, o + i, none⟩) hlt).trans (hx i hi)⟩⟩
theorem InsAt.keep {w w' : World} {b o : Nat} {i : Im.I5} (h : InsAt w b o i) (hk : ∀ o, w'.cell? ⟨b, o, none⟩ = w.cell? ⟨b, o, none⟩) : InsAt w' b o i :=
  ⟨(hk _).trans h.1, (hk _).trans h.2.1, (hk _).trans h.2.2.1, (hk _).trans h.2.2.2.1, (hk _).trans h.2.2.2.2⟩
theorem CoSl.below {w w' : World} {A : Option Addr} {len cap : Nat} {cs : List Im.I5} (h : CoSl w A len cap cs) (hb : Below w.heap.size w w') : CoSl w' A len cap cs :=
  ⟨h.hlen, h.hle, h.hcap, h.hnone, h.rng, fun h0 => by
    obtain ⟨b, o, e, hlt, hx⟩ := h.mem h0
    exact ⟨b, o, e, Nat.lt_of_lt_of_le hlt hb.size, fun i hi => (hx i hi).keep fun o => hb.cell (p := ⟨b, o, none⟩) hlt⟩⟩
/-- An image in memory. -/
structure ImAt (w : World) (Ad : Option Addr) (ld cd : Nat) (Af : Option Addr) (lf cf : Nat) (Ac : Option Addr) (lc cc : Nat) (p : Im.Pic) : Prop where
  d : BySl w Ad ld cd p.ds
  f : InSl w Af lf cf p.fs
  c : CoSl w Ac lc cc p.cs
theorem ImAt.below {w w' : World} {Ad : Option Addr} {ld cd : Nat} {Af : Option Addr} {lf cf : Nat} {Ac : Option Addr} {lc cc : Nat} {p : Im.Pic} (h : ImAt w Ad ld cd Af lf cf Ac lc cc p) (hb : Below w.heap.size w w') : ImAt w' Ad ld cd Af lf cf Ac lc cc p :=
  ⟨h.d.below hb, h.f.below hb, h.c.below hb⟩
theorem Below.box (w : World) (o : Obj) : Below w.heap.size w (w.alloc o) := (Below.refl _ _).alloc (Nat.le_refl _) _

set_option maxHeartbeats 400000 in
theorem within_any (x lo hi : Int) (w : World) :
    Calls Tryd.prog 62 #[.int .i64 x, .int .i64 lo, .int .i64 hi] w fun e w' => e = .returned (.bool (decide (lo ≤ x) && decide (x ≤ hi))) ∧ w = w' := by
  go_enter Tryd.func62, Tryd.ntmps62
  go_wp2
  all_goals
    go_ret
    refine ⟨ret_bool ?_, rfl⟩
    simp_all
    try (intro h; omega)

set_option maxHeartbeats 400000 in
theorem leads_any (op a b c m fr to : Int) (nf : Nat) (w : World) (h0 : 0 ≤ fr) (h1 : fr < 18446744073709551616) (h2 : 0 ≤ to) (h3 : to < 18446744073709551616) (h4 : nf < 18446744073709551616) :
    Calls Tryd.prog 66 #[.agg #[.int .i64 op, .int .i64 a, .int .i64 b, .int .i64 c, .int .u64 m], .int .i64 fr, .int .i64 to, .int .i64 nf] w fun e w' => e = .returned (.bool (Im.leads ⟨op, a, b, c, m⟩ fr to nf)) ∧ Below w.heap.size w w' := by
  have e1 : IntKind.u64.wrap fr = fr := by rw [IntKind.wrap_u64]; omega
  have e2 : IntKind.u64.wrap to = to := by rw [IntKind.wrap_u64]; omega
  have e3 : IntKind.u64.wrap (nf : Int) = nf := by rw [IntKind.wrap_u64]; omega
  go_enter Tryd.func66, Tryd.ntmps66
  go_wp2
  all_goals
    go_ret
    refine ⟨ret_bool ?_, Below.box _ _⟩
    simp_all [Im.leads]
    try (intro h; omega)

set_option maxHeartbeats 400000 in
theorem reach_any (mem stk inp : Int) (Ad : Option Addr) (ld cd : Nat) (Af : Option Addr) (lf cf : Nat) (Ac : Option Addr) (lc cc : Nat) (fs : List Int) (n : Nat) (w : World) (hf : InSl w Af lf cf fs) (hn : n < lf) (hc : lc ≤ maxLen) :
    Calls Tryd.prog 41 #[.agg #[.int .i64 mem, .int .i64 stk, .int .i64 inp, .slice Ad ld cd, .slice Af lf cf, .slice Ac lc cc], .int .i64 n] w fun e w' => e = .returned (.tuple #[.int .i64 (fs.getD n 0), .int .i64 (Im.till fs lc n)]) ∧ Below w.heap.size w w' := by
  obtain ⟨b, o, rfl, hb, hx⟩ := hf.mem (by omega)
  have hl := hf.hlen
  have hcap := hf.hcap
  have hle := hf.hle
  have c0 := hx n hn
  have c1 : n + 1 < lf → w.cell? ⟨b, o + (n + 1), none⟩ = some (.int .i64 (fs.getD (n + 1) 0)) := fun h => hx (n + 1) h
  have hne : b ≠ w.heap.size := by omega
  unfold maxLen at hcap hc
  clear hx hf
  by_cases h1 : n + 1 < lf
  · have c1 := c1 h1
    have h1' : (n : Int) + 1 < lf := by omega
    have ht : Im.till fs lc n = fs.getD (n + 1) 0 := Im.till_in (by omega)
    rw [ht]
    clear ht hl
    generalize fs.getD n 0 = z0 at *
    generalize fs.getD (n + 1) 0 = z1 at *
    go_enter Tryd.func41, Tryd.ntmps41
    go_wp2
    go_quiet (fail)
    go_wp2
    go_ret2
    exact ⟨rfl, below_drewN (Below.box _ _) nq⟩
  · have h1' : ¬ (n : Int) + 1 < lf := by omega
    have ht : Im.till fs lc n = lc := Im.till_last (by omega)
    rw [ht]
    clear ht hl c1
    generalize fs.getD n 0 = z0 at *
    go_enter Tryd.func41, Tryd.ntmps41
    go_wp2
    go_quiet (fail)
    go_wp2
    go_ret2
    exact ⟨rfl, below_drewN (Below.box _ _) nq⟩
end Go.Proofs.YtfhnigfghfmolaaDoor
namespace Go.Proofs.YtfhnigfghfmolaaDoor
set_option maxRecDepth 100000
open Go.RowKit

set_option maxHeartbeats 800000 in
theorem places_any (mem stk inp : Int) (Ad : Option Addr) (ld cd : Nat) (Af : Option Addr) (lf cf : Nat) (Ac : Option Addr) (lc cc : Nat) (fs : List Int) (w : World) (hf : InSl w Af lf cf fs) (hn : 1 ≤ lf) (hc : lc ≤ maxLen) :
    Calls Tryd.prog 63 #[.agg #[.int .i64 mem, .int .i64 stk, .int .i64 inp, .slice Ad ld cd, .slice Af lf cf, .slice Ac lc cc]] w fun e w' => e = .returned (.bool (decide (Im.Places fs lc))) ∧ Below w.heap.size w w' := by
  obtain ⟨b, o, rfl, hb, hx⟩ := hf.mem (by omega)
  have hl := Lib.hid hf.hlen
  have hcap := hf.hcap
  have hle := hf.hle
  have hne : b ≠ w.heap.size := by omega
  unfold maxLen at hcap hc
  have HX := Lib.hid hx
  have HB := Lib.hid hb
  have h0n : 0 < lf := by omega
  clear hx hf hb
  have B0 : Below w.heap.size w (w.alloc (.cells #[.int .i64 mem, .int .i64 stk, .int .i64 inp, .slice Ad ld cd, .slice (some ⟨b, o, none⟩) lf cf, .slice Ac lc cc] 26)) := Below.box _ _
  have b4 : (w.alloc (.cells #[.int .i64 mem, .int .i64 stk, .int .i64 inp, .slice Ad ld cd, .slice (some ⟨b, o, none⟩) lf cf, .slice Ac lc cc] 26)).cell? ⟨w.heap.size, 4, none⟩ = some (.slice (some ⟨b, o, none⟩) lf cf) := by simp
  have b5 : (w.alloc (.cells #[.int .i64 mem, .int .i64 stk, .int .i64 inp, .slice Ad ld cd, .slice (some ⟨b, o, none⟩) lf cf, .slice Ac lc cc] 26)).cell? ⟨w.heap.size, 5, none⟩ = some (.slice Ac lc cc) := by simp
  have H4 := Lib.hid b4
  have H5 := Lib.hid b5
  have HB0 := Lib.hid B0
  clear b4 b5 B0
  go_enter Tryd.func63, Tryd.ntmps63
  go_wp2
  go_loopw [3] (fun i wr => ∃ k : Nat, k + 1 ≤ lf ∧ i = .int .i64 ((k : Int) + 1) ∧ Below (w.heap.size + 1) (w.alloc (.cells #[.int .i64 mem, .int .i64 stk, .int .i64 inp, .slice Ad ld cd, .slice (some ⟨b, o, none⟩) lf cf, .slice Ac lc cc] 26)) wr ∧ ∀ j, j < k → fs.getD j 0 < fs.getD (j + 1) 0) (fun i _ => lf - (intOf i).toNat)
  case atStart => exact ⟨0, by omega, rfl, Below.refl _ _, fun j hj => absurd hj (by omega)⟩
  case round =>
    obtain ⟨k, hk, rfl, hbr, hall⟩ := hrel
    have c4 := cells_below hbr H4.out (by simp)
    have c5 := cells_below hbr H5.out (by simp)
    have hcell : ∀ i, i < lf → wr.cell? ⟨b, o + i, none⟩ = some (.int .i64 (fs.getD i 0)) := fun i hi => cells_below hbr (cells_below HB0.out (HX.out i hi) HB.out) (by have := HB.out; omega)
    have HC := Lib.hid hcell
    have HR := Lib.hid hbr
    have HA := Lib.hid hall
    clear hcell hbr hall
    by_cases hlt : k + 1 < lf
    · have d1 := HC.out (k + 1) hlt
      have d0 := HC.out k (by omega)
      have hi1 : (k : Int) + 1 < lf := by omega
      have hz : ∃ z0 z1, fs.getD k 0 = z0 ∧ fs.getD (k + 1) 0 = z1 := ⟨_, _, rfl, rfl⟩
      obtain ⟨z0, z1, e0, e1⟩ := hz
      rw [e1] at d1
      rw [e0] at d0
      have E0 := Lib.hid e0
      have E1 := Lib.hid e1
      clear e0 e1
      go_wp2
      go_quiet (fail)
      go_wp2
      · go_ret
        have hle : z1 ≤ z0 := by assumption
        refine ⟨ret_bool ?_, HB0.out.trans (below_drewN (HR.out.mono (by omega)) nq)⟩
        refine (decide_eq_false ?_).symm
        rintro ⟨_, h, _⟩
        have := h k (by have := hl.out; omega)
        rw [E0.out, E1.out] at this
        omega
      · go_roundw
        case rel =>
          have hgt : z0 < z1 := by first | assumption | (have h : ¬ z1 ≤ z0 := by assumption; omega)
          refine ⟨k + 1, by omega, by go_num, below_drewN HR.out nq, fun j hj => ?_⟩
          rcases Nat.lt_succ_iff_lt_or_eq.1 hj with h | h
          · exact HA.out j h
          · subst h; rw [E0.out, E1.out]; omega
        case measure => simp [intOf]; omega
    · have hkl : k + 1 = lf := by omega
      have hi1 : ¬ (k : Int) + 1 < lf := by omega
      have d0 : wr.cell? ⟨b, o, none⟩ = some (.int .i64 (fs.getD 0 0)) := HC.out 0 (by omega)
      have d1 := HC.out k (by omega)
      have hz : ∃ z0 z1, fs.getD 0 0 = z0 ∧ fs.getD k 0 = z1 := ⟨_, _, rfl, rfl⟩
      obtain ⟨z0, z1, e0, e1⟩ := hz
      rw [e1] at d1
      rw [e0] at d0
      have E0 := Lib.hid e0
      have E1 := Lib.hid e1
      clear e0 e1
      have hpl : Im.Places fs lc ↔ (z0 = 0 ∧ z1 < lc) := by
        have h1 : fs.length - 1 = k := by have := hl.out; omega
        unfold Im.Places
        rw [h1, E0.out, E1.out]
        exact ⟨fun h => ⟨h.1, h.2.2⟩, fun h => ⟨h.1, HA.out, h.2⟩⟩
      have HPL := Lib.hid hpl
      clear hpl
      have hlf : (lf : Int) - 1 = k := by omega
      have hkf : (k : Int) < lf := by omega
      have hkf' : k < lf := by omega
      have HK := Lib.hid hkl
      clear hkl
      by_cases hz0 : z0 = 0
      · subst hz0
        go_wp2
        go_quiet (fail)
        go_wp2
        all_goals
          go_ret
          refine ⟨ret_bool ?_, HB0.out.trans (below_drewN (HR.out.mono (by omega)) nq)⟩
          rw [show decide (Im.Places fs lc) = decide (z1 < (lc : Int)) from decide_eq_decide.2 (HPL.out.trans (by simp))]
          try rfl
      · have hz1 : (z0 == 0) = false := by simpa using hz0
        go_wp2
        go_quiet (fail)
        go_wp2
        go_ret
        refine ⟨ret_bool ?_, HB0.out.trans (below_drewN (HR.out.mono (by omega)) nq)⟩
        exact (decide_eq_false (fun h => hz0 (HPL.out.1 h).1)).symm

set_option maxHeartbeats 800000 in
theorem counts_any (mem stk inp : Int) (Ad : Option Addr) (ld cd : Nat) (Af : Option Addr) (lf cf : Nat) (Ac : Option Addr) (lc cc : Nat) (p : Im.Pic) (w : World) (hi : ImAt w Ad ld cd Af lf cf Ac lc cc p) (e0 : p.mem = mem) (e1 : p.stk = stk) (e2 : p.inp = inp) :
    Calls Tryd.prog 42 #[.agg #[.int .i64 mem, .int .i64 stk, .int .i64 inp, .slice Ad ld cd, .slice Af lf cf, .slice Ac lc cc]] w fun e w' => e = .returned (.bool (decide (Im.Cnt p))) ∧ Below w.heap.size w w' := by
  have HI := Lib.hid (hi.below (Below.box w (.cells #[.int .i64 mem, .int .i64 stk, .int .i64 inp, .slice Ad ld cd, .slice Af lf cf, .slice Ac lc cc] 26)))
  have hd := hi.d.hlen
  have hf := hi.f.hlen
  have hc := hi.c.hlen
  have hd1 := hi.d.hle
  have hd2 := hi.d.hcap
  have hf1 := hi.f.hle
  have hf2 := hi.f.hcap
  have hc1 := hi.c.hle
  have hc2 := hi.c.hcap
  have HPL : ∀ W, InSl W Af lf cf p.fs → 1 ≤ lf → Calls Tryd.prog 63 #[.agg #[.int .i64 mem, .int .i64 stk, .int .i64 inp, .slice Ad ld cd, .slice Af lf cf, .slice Ac lc cc]] W fun e w' => e = .returned (.bool (decide (Im.Places p.fs lc))) ∧ Below W.heap.size W w' := fun W h h1 => places_any mem stk inp Ad ld cd Af lf cf Ac lc cc p.fs W h h1 (Nat.le_trans hc1 hc2)
  have HP := Lib.hid HPL
  have hcn : Im.Cnt p ↔ ((0 ≤ mem ∧ mem ≤ 64) ∧ (0 ≤ stk ∧ stk ≤ 16) ∧ (0 ≤ inp ∧ inp ≤ 16) ∧ (0 ≤ (ld : Int) ∧ (ld : Int) ≤ mem) ∧ (1 ≤ (lf : Int) ∧ (lf : Int) ≤ 16) ∧ (1 ≤ (lc : Int) ∧ (lc : Int) ≤ 256) ∧ Im.Places p.fs lc) := by
    unfold Im.Cnt
    rw [e0, e1, e2, hd, hf, hc]
    constructor
    · rintro ⟨h1, h2, h3, h4, h5, h6, h7⟩
      exact ⟨h1, h2, h3, ⟨by omega, h4⟩, by omega, by omega, h7⟩
    · rintro ⟨h1, h2, h3, h4, h5, h6, h7⟩
      exact ⟨h1, h2, h3, h4.2, by omega, by omega, h7⟩
  have HC := Lib.hid hcn
  clear hi hd hf hc hcn HPL e0 e1 e2
  unfold maxLen at hd2 hf2 hc2
  generalize hq : decide (Im.Places p.fs lc) = q at *
  have HQ := Lib.hid hq
  clear hq
  go_enter Tryd.func42, Tryd.ntmps42
  go_wp2_with (first
    | (go_at_call 62; refine (within_any _ _ _ _).mono ?_; rintro e w' ⟨rfl, rfl⟩)
    | (go_at_call 63; refine (HP.out _ HI.out.f ?c1).mono ?_; rotate_left; rintro e v ⟨rfl, hbv⟩; have HV := Lib.hid hbv; clear hbv))
  case c1 => omega
  all_goals go_ret
  all_goals first
    | (refine ⟨ret_bool ?_, (Below.box _ _).trans (HV.out.mono (by simp))⟩
       rw [← HQ.out]
       exact decide_eq_decide.2 ⟨fun h => HC.out.2 ⟨by assumption, by assumption, by assumption, by omega, by assumption, by assumption, h⟩, fun h => (HC.out.1 h).2.2.2.2.2.2⟩)
    | (refine ⟨ret_bool (decide_eq_false ?_).symm, Below.box _ _⟩
       intro h
       obtain ⟨g1, g2, g3, g4, g5, g6, _⟩ := HC.out.1 h
       clear HI HC HP HQ
       simp_all
       try omega)
end Go.Proofs.YtfhnigfghfmolaaDoor
namespace Go.Proofs.YtfhnigfghfmolaaDoor
set_option maxRecDepth 100000
open Go.RowKit

set_option maxHeartbeats 1600000 in
theorem flaw_any (mem stk inp : Int) (Ad : Option Addr) (ld cd : Nat) (Af : Option Addr) (lf cf : Nat) (Ac : Option Addr) (lc cc : Nat) (p : Im.Pic) (w : World) (hi : ImAt w Ad ld cd Af lf cf Ac lc cc p) (hP : Im.Places p.fs lc) (hn : 1 ≤ lf) :
    Calls Tryd.prog 45 #[.agg #[.int .i64 mem, .int .i64 stk, .int .i64 inp, .slice Ad ld cd, .slice Af lf cf, .slice Ac lc cc]] w fun e w' => e = .returned (.tuple #[.int .i64 (Im.flI p.fs p.cs), .bool (Im.flB p.fs p.cs)]) ∧ Below w.heap.size w w' := by
  have hfl := Lib.hid hi.f.hlen
  have hcl := Lib.hid hi.c.hlen
  have hf2 := Nat.le_trans hi.f.hle hi.f.hcap
  have hc2 := Nat.le_trans hi.c.hle hi.c.hcap
  have HPP := Lib.hid hP
  have hc0 : 0 < lc := by
    have h1 := hP.2.2
    have h2 := hP.nonneg (k := p.fs.length - 1) (by have := hfl.out; omega)
    omega
  obtain ⟨bc, oc, rfl, hbc, hcc⟩ := hi.c.mem hc0
  have HCC := Lib.hid hcc
  have HBC := Lib.hid hbc
  have HRG := Lib.hid hi.c.rng
  have HI := Lib.hid hi
  clear hi hP hcc hbc
  unfold maxLen at hf2 hc2
  have H0 := Lib.hid (Below.box w (.cells #[.int .i64 mem, .int .i64 stk, .int .i64 inp, .slice Ad ld cd, .slice Af lf cf, .slice (some ⟨bc, oc, none⟩) lc cc] 26))
  have b0 : (w.alloc (.cells #[.int .i64 mem, .int .i64 stk, .int .i64 inp, .slice Ad ld cd, .slice Af lf cf, .slice (some ⟨bc, oc, none⟩) lc cc] 26)).cell? ⟨w.heap.size, 0, none⟩ = some (.int .i64 mem) := by simp
  have b1 : (w.alloc (.cells #[.int .i64 mem, .int .i64 stk, .int .i64 inp, .slice Ad ld cd, .slice Af lf cf, .slice (some ⟨bc, oc, none⟩) lc cc] 26)).cell? ⟨w.heap.size, 1, none⟩ = some (.int .i64 stk) := by simp
  have b2 : (w.alloc (.cells #[.int .i64 mem, .int .i64 stk, .int .i64 inp, .slice Ad ld cd, .slice Af lf cf, .slice (some ⟨bc, oc, none⟩) lc cc] 26)).cell? ⟨w.heap.size, 2, none⟩ = some (.int .i64 inp) := by simp
  have b3 : (w.alloc (.cells #[.int .i64 mem, .int .i64 stk, .int .i64 inp, .slice Ad ld cd, .slice Af lf cf, .slice (some ⟨bc, oc, none⟩) lc cc] 26)).cell? ⟨w.heap.size, 3, none⟩ = some (.slice Ad ld cd) := by simp
  have b4 : (w.alloc (.cells #[.int .i64 mem, .int .i64 stk, .int .i64 inp, .slice Ad ld cd, .slice Af lf cf, .slice (some ⟨bc, oc, none⟩) lc cc] 26)).cell? ⟨w.heap.size, 4, none⟩ = some (.slice Af lf cf) := by simp
  have b5 : (w.alloc (.cells #[.int .i64 mem, .int .i64 stk, .int .i64 inp, .slice Ad ld cd, .slice Af lf cf, .slice (some ⟨bc, oc, none⟩) lc cc] 26)).cell? ⟨w.heap.size, 5, none⟩ = some (.slice (some ⟨bc, oc, none⟩) lc cc) := by simp
  have G0 := Lib.hid b0
  have G1 := Lib.hid b1
  have G2 := Lib.hid b2
  have G3 := Lib.hid b3
  have G4 := Lib.hid b4
  have G5 := Lib.hid b5
  clear b0 b1 b2 b3 b4 b5
  go_enter Tryd.func45, Tryd.ntmps45
  go_wp2
  go_loopw [12] (fun i wr => ∃ k : Nat, k ≤ lf ∧ i = .int .i64 k ∧ Below (w.heap.size + 1) (w.alloc (.cells #[.int .i64 mem, .int .i64 stk, .int .i64 inp, .slice Ad ld cd, .slice Af lf cf, .slice (some ⟨bc, oc, none⟩) lc cc] 26)) wr ∧ ∀ j : Nat, (j : Int) < p.fs.getD k lc → Im.okB p.fs p.cs j = true) (fun i _ => lf - (intOf i).toNat)
  case atStart =>
    refine ⟨0, by omega, rfl, Below.refl _ _, fun j hj => ?_⟩
    rw [Im.getD_irrel (b := 0) (by have := hfl.out; omega), HPP.out.1] at hj
    omega
  case round =>
    obtain ⟨k, hk, rfl, hbr, hall⟩ := hrel
    have c0 := cells_below hbr G0.out (by simp)
    have c1 := cells_below hbr G1.out (by simp)
    have c2 := cells_below hbr G2.out (by simp)
    have c3 := cells_below hbr G3.out (by simp)
    have c4 := cells_below hbr G4.out (by simp)
    have c5 := cells_below hbr G5.out (by simp)
    have HR := Lib.hid hbr
    have HA := Lib.hid hall
    clear hbr hall
    by_cases hlt : k < lf
    · have hI : ImAt wr Ad ld cd Af lf cf (some ⟨bc, oc, none⟩) lc cc p := (HI.out.below H0.out).below (HR.out.mono (by simp))
      have HIr := Lib.hid hI
      clear hI
      have HRC := Lib.hid (reach_any mem stk inp Ad ld cd Af lf cf (some ⟨bc, oc, none⟩) lc cc p.fs k wr HIr.out.f hlt (by unfold maxLen; omega))
      have hz : ∃ z0 z1, p.fs.getD k 0 = z0 ∧ Im.till p.fs lc k = z1 := ⟨_, _, rfl, rfl⟩
      obtain ⟨z0, z1, e0, e1⟩ := hz
      rw [e0, e1] at HRC
      have hk' : k < p.fs.length := by have := hfl.out; omega
      have r0 : 0 ≤ z0 := by rw [← e0]; exact HPP.out.nonneg hk'
      have r1 : z0 < z1 := by rw [← e0, ← e1]; exact HPP.out.lt_till hk'
      have r2 : z1 ≤ lc := by rw [← e1]; exact HPP.out.till_le hk'
      have E0 := Lib.hid e0
      have E1 := Lib.hid e1
      clear e0 e1 hk'
      go_wp2_with fail
      refine HRC.out.mono ?_
      rintro e v ⟨rfl, hbv⟩
      have HV := Lib.hid (HR.out.trans (hbv.mono (by have := HR.out.size; simp at this; omega)))
      clear hbv HIr HRC
      go_wp2
      go_loopw [7] (fun i wx => ∃ q : Nat, z0 ≤ q ∧ (q : Int) ≤ z1 ∧ i = .int .i64 q ∧ Below (w.heap.size + 1) (w.alloc (.cells #[.int .i64 mem, .int .i64 stk, .int .i64 inp, .slice Ad ld cd, .slice Af lf cf, .slice (some ⟨bc, oc, none⟩) lc cc] 26)) wx ∧ ∀ j : Nat, j < q → Im.okB p.fs p.cs j = true) (fun i _ => (z1 - intOf i).toNat)
      case atStart =>
        refine ⟨z0.toNat, by omega, by omega, by congr 1; omega, HV.out, fun j hj => HA.out j ?_⟩
        rw [Im.getD_irrel (b := 0) (by have := hfl.out; omega), E0.out]
        omega
      case round =>
        obtain ⟨q, hq0, hq1, rfl, hbx, hal⟩ := hrel
        have d4 := cells_below hbx G4.out (by simp)
        have d5 := cells_below hbx G5.out (by simp)
        have HX := Lib.hid hbx
        have HL := Lib.hid hal
        have hne : w.heap.size < wr.heap.size := by have := hbx.size; simp at this; omega
        clear hbx hal c0 c1 c2 c3 c4 c5
        by_cases hqt : (q : Int) < z1
        · have hq' : q < lc := by omega
          have hqi : (q : Int) < lc := by omega
          have hins : InsAt wr bc (oc + q * 5) (p.cs.getD q Im.z5) := ((HCC.out q hq').keep fun o => H0.out.cell (p := ⟨bc, o, none⟩) HBC.out).keep fun o => HX.out.cell (p := ⟨bc, o, none⟩) (by have := HBC.out; exact Nat.lt_succ_of_lt this)
          have hbcn : bc ≠ wr.heap.size := by have h1 := HBC.out; have h2 := HX.out.size; simp at h2; omega
          have hI5 : ∃ i, p.cs.getD q Im.z5 = i := ⟨_, rfl⟩
          obtain ⟨⟨op, a, b, c, m⟩, hei⟩ := hI5
          rw [hei] at hins
          obtain ⟨x0, x1, x2, x3, x4⟩ := hins
          have HE := Lib.hid hei
          clear hei
          simp only at x0 x1 x2 x3 x4
          have hLd : ∃ L, Im.leads ⟨op, a, b, c, m⟩ z0 z1 lf = L := ⟨_, rfl⟩
          obtain ⟨L, hLe⟩ := hLd
          have HLD : ∀ W : World, Calls Tryd.prog 66 #[.agg #[.int .i64 op, .int .i64 a, .int .i64 b, .int .i64 c, .int .u64 m], .int .i64 z0, .int .i64 z1, .int .i64 lf] W fun e w' => e = .returned (.bool L) ∧ Below W.heap.size W w' := fun W => by
            have := leads_any op a b c m z0 z1 lf W r0 (by omega) (by omega) (by omega) (by omega)
            rw [hLe] at this
            exact this
          have HLL := Lib.hid HLD
          have hok : Im.okB p.fs p.cs q = (L && !(Cd.goes op && decide ((q : Int) + 1 = z1))) := by
            have hcl' := hcl.out
            have h1 := Im.okB_eq (fs := p.fs) (cs := p.cs) (n := k) (k := q) (by rw [hcl']; exact HPP.out) (by have := hfl.out; omega) (by rw [E0.out]; exact hq0) (by rw [hcl', E1.out]; exact hqt) HE.out
            rw [hcl', E0.out, E1.out, hfl.out, hLe] at h1
            exact h1
          have HOK := Lib.hid hok
          clear hok HLD hLe
          go_wp2_with (first
            | (go_at_call 66; refine (HLL.out _).mono ?_; rintro e v2 ⟨rfl, hb2⟩; have HB2 := Lib.hid hb2; have y0 : v2.cell? ⟨wr.heap.size, 0, none⟩ = some (.int .i64 op) := cells_below hb2 (by simp) (by simp); clear hb2)
            | (go_at_call 67; refine (goes_any _ _).mono ?_; rintro e v3 ⟨rfl, rfl⟩))
          · go_ret2
            have h1 : Cd.goes op = true := by assumption
            have h2 : ((q : Int) + 1 == z1) = true := by assumption
            have h3 : L = true := by assumption
            have hok : Im.okB p.fs p.cs q = false := by rw [HOK.out, h1, h3]; simpa using h2
            obtain ⟨e1, e2⟩ := Im.fl_at (by have := hcl.out; omega) hok HL.out
            exact ⟨ret_op e1.symm e2.symm, H0.out.trans (((HX.out.alloc (by omega) _).trans (HB2.out.mono (by simp; omega))).mono (by omega))⟩
          · go_roundw
            case rel =>
              have h2 : ((q : Int) + 1 == z1) = false := by assumption
              have h3 : L = true := by assumption
              have h4 : ¬ (q : Int) + 1 = z1 := by simpa using h2
              refine ⟨q + 1, by omega, by omega, by go_num, (HX.out.alloc (by omega) _).trans (HB2.out.mono (by simp; omega)), fun j hj => ?_⟩
              rcases Nat.lt_succ_iff_lt_or_eq.1 hj with h | h
              · exact HL.out j h
              · rw [h, HOK.out, h3, decide_eq_false h4]; simp
            case measure => simp [intOf]; omega
          · go_roundw
            case rel =>
              have h2 : ¬ Cd.goes op = true := by assumption
              have h3 : L = true := by assumption
              refine ⟨q + 1, by omega, by omega, by go_num, (HX.out.alloc (by omega) _).trans (HB2.out.mono (by simp; omega)), fun j hj => ?_⟩
              rcases Nat.lt_succ_iff_lt_or_eq.1 hj with h | h
              · exact HL.out j h
              · rw [h, HOK.out, h3, Bool.eq_false_iff.2 h2]; simp
            case measure => simp [intOf]; omega
          · go_ret2
            have h3 : ¬ L = true := by assumption
            have hok : Im.okB p.fs p.cs q = false := by rw [HOK.out, Bool.eq_false_iff.2 h3]; simp
            obtain ⟨e1, e2⟩ := Im.fl_at (by have := hcl.out; omega) hok HL.out
            exact ⟨ret_op e1.symm e2.symm, H0.out.trans (((HX.out.alloc (by omega) _).trans (HB2.out.mono (by simp; omega))).mono (by omega))⟩
        · have hqz : (q : Int) = z1 := by omega
          have HQZ := Lib.hid hqz
          clear hqz
          go_wp2
          go_roundw
          case rel =>
            refine ⟨k + 1, by omega, by go_num, HX.out, fun j hj => HL.out j ?_⟩
            have h1 : p.fs.getD (k + 1) lc = z1 := E1.out
            rw [h1, ← HQZ.out] at hj
            omega
          case measure => simp [intOf]; omega
    · have hkl : k = lf := by omega
      have HKL := Lib.hid hkl
      clear hkl
      go_wp2
      go_ret2
      have hall : ∀ j, j < p.cs.length → Im.okB p.fs p.cs j = true := fun j hj => by
        refine HA.out j ?_
        rw [Im.getD_past (by have := hfl.out; have := HKL.out; omega)]
        have := hcl.out
        omega
      obtain ⟨e1, e2⟩ := Im.fl_none hall
      exact ⟨ret_op e1.symm e2.symm, H0.out.trans (HR.out.mono (by omega))⟩
end Go.Proofs.YtfhnigfghfmolaaDoor
namespace Go.Proofs.YtfhnigfghfmolaaDoor
set_option maxRecDepth 100000
open Go.RowKit

/-- The number of the function that has a place. -/
def Im.fn (fs : List Int) (nc : Nat) (pl : Int) : Int := if 0 ≤ pl ∧ pl < nc then Im.own fs nc pl else -1

set_option maxHeartbeats 1600000 in
theorem fun_any (mem stk inp : Int) (Ad : Option Addr) (ld cd : Nat) (Af : Option Addr) (lf cf : Nat) (Ac : Option Addr) (lc cc : Nat) (fs : List Int) (pl : Int) (w : World) (hf : InSl w Af lf cf fs) (hP : Im.Places fs lc) (hn : 1 ≤ lf) (hc2 : lc ≤ maxLen) :
    Calls Tryd.prog 26 #[.agg #[.int .i64 mem, .int .i64 stk, .int .i64 inp, .slice Ad ld cd, .slice Af lf cf, .slice Ac lc cc], .int .i64 pl] w fun e w' => e = .returned (.int .i64 (Im.fn fs lc pl)) ∧ Below w.heap.size w w' := by
  have hfl := Lib.hid hf.hlen
  have hf2 := Nat.le_trans hf.hle hf.hcap
  have HPP := Lib.hid hP
  have HI := Lib.hid hf
  clear hf hP
  have HC2 := Lib.hid hc2
  unfold maxLen at hf2 hc2
  have H0 := Lib.hid (Below.box w (.cells #[.int .i64 mem, .int .i64 stk, .int .i64 inp, .slice Ad ld cd, .slice Af lf cf, .slice Ac lc cc] 26))
  have b0 : (w.alloc (.cells #[.int .i64 mem, .int .i64 stk, .int .i64 inp, .slice Ad ld cd, .slice Af lf cf, .slice Ac lc cc] 26)).cell? ⟨w.heap.size, 0, none⟩ = some (.int .i64 mem) := by simp
  have b1 : (w.alloc (.cells #[.int .i64 mem, .int .i64 stk, .int .i64 inp, .slice Ad ld cd, .slice Af lf cf, .slice Ac lc cc] 26)).cell? ⟨w.heap.size, 1, none⟩ = some (.int .i64 stk) := by simp
  have b2 : (w.alloc (.cells #[.int .i64 mem, .int .i64 stk, .int .i64 inp, .slice Ad ld cd, .slice Af lf cf, .slice Ac lc cc] 26)).cell? ⟨w.heap.size, 2, none⟩ = some (.int .i64 inp) := by simp
  have b3 : (w.alloc (.cells #[.int .i64 mem, .int .i64 stk, .int .i64 inp, .slice Ad ld cd, .slice Af lf cf, .slice Ac lc cc] 26)).cell? ⟨w.heap.size, 3, none⟩ = some (.slice Ad ld cd) := by simp
  have b4 : (w.alloc (.cells #[.int .i64 mem, .int .i64 stk, .int .i64 inp, .slice Ad ld cd, .slice Af lf cf, .slice Ac lc cc] 26)).cell? ⟨w.heap.size, 4, none⟩ = some (.slice Af lf cf) := by simp
  have b5 : (w.alloc (.cells #[.int .i64 mem, .int .i64 stk, .int .i64 inp, .slice Ad ld cd, .slice Af lf cf, .slice Ac lc cc] 26)).cell? ⟨w.heap.size, 5, none⟩ = some (.slice Ac lc cc) := by simp
  have G0 := Lib.hid b0
  have G1 := Lib.hid b1
  have G2 := Lib.hid b2
  have G3 := Lib.hid b3
  have G4 := Lib.hid b4
  have G5 := Lib.hid b5
  clear b0 b1 b2 b3 b4 b5
  by_cases hin : 0 ≤ pl ∧ pl < lc
  · obtain ⟨p0, p1⟩ := hin
    have hfn : Im.fn fs lc pl = Im.own fs lc pl := by unfold Im.fn; rw [if_pos ⟨p0, p1⟩]
    have HFN := Lib.hid hfn
    clear hfn
    go_enter Tryd.func26, Tryd.ntmps26
    go_wp2
    go_loopw [20] (fun i wr => ∃ k : Nat, k ≤ lf ∧ i = .int .i64 k ∧ Below (w.heap.size + 1) (w.alloc (.cells #[.int .i64 mem, .int .i64 stk, .int .i64 inp, .slice Ad ld cd, .slice Af lf cf, .slice Ac lc cc] 26)) wr ∧ ∀ j : Nat, j < k → ¬ (fs.getD j 0 ≤ pl ∧ pl < Im.till fs lc j)) (fun i _ => lf - (intOf i).toNat)
    case atStart => exact ⟨0, by omega, rfl, Below.refl _ _, fun j hj => absurd hj (by omega)⟩
    case round =>
      obtain ⟨k, hk, rfl, hbr, hall⟩ := hrel
      have c0 := cells_below hbr G0.out (by simp)
      have c1 := cells_below hbr G1.out (by simp)
      have c2 := cells_below hbr G2.out (by simp)
      have c3 := cells_below hbr G3.out (by simp)
      have c4 := cells_below hbr G4.out (by simp)
      have c5 := cells_below hbr G5.out (by simp)
      have HR := Lib.hid hbr
      have HA := Lib.hid hall
      clear hbr hall
      by_cases hlt : k < lf
      · have hI : InSl wr Af lf cf fs := (HI.out.below H0.out).below (HR.out.mono (by simp))
        have HRC := Lib.hid (reach_any mem stk inp Ad ld cd Af lf cf Ac lc cc fs k wr hI hlt HC2.out)
        clear hI
        have hz : ∃ z0 z1, fs.getD k 0 = z0 ∧ Im.till fs lc k = z1 := ⟨_, _, rfl, rfl⟩
        obtain ⟨z0, z1, e0, e1⟩ := hz
        rw [e0, e1] at HRC
        have E0 := Lib.hid e0
        have E1 := Lib.hid e1
        clear e0 e1
        go_wp2_with fail
        refine HRC.out.mono ?_
        rintro e v ⟨rfl, hbv⟩
        have HV := Lib.hid (HR.out.trans (hbv.mono (by have := HR.out.size; simp at this; omega)))
        clear hbv HRC
        go_wp2
        · go_ret
          have h1 : z0 ≤ pl := by assumption
          have h2 : pl < z1 := by assumption
          refine ⟨cret_int ?_, H0.out.trans (HV.out.mono (by omega))⟩
          rw [HFN.out, Im.own_eq (n := k) HPP.out (by have := hfl.out; omega) (by rw [E0.out]; exact h1) (by rw [E1.out]; exact h2)]
        all_goals
          go_roundw
          case rel =>
            refine ⟨k + 1, by omega, by go_num, HV.out, fun j hj => ?_⟩
            rcases Nat.lt_succ_iff_lt_or_eq.1 hj with h | h
            · exact HA.out j h
            · rw [h, E0.out, E1.out]
              clear HA HR HV c0 c1 c2 c3 c4 c5
              omega
          case measure => simp [intOf]; omega
      · have hkl : k = lf := by omega
        obtain ⟨n, g1, g2, g3⟩ := Im.own_ex HPP.out (by have := hfl.out; omega) p0 p1
        exact absurd ⟨g2, g3⟩ (HA.out n (by have := hfl.out; omega))
  · have hfn : Im.fn fs lc pl = -1 := by unfold Im.fn; rw [if_neg hin]
    rw [hfn]
    clear hfn
    by_cases p0 : pl < 0
    · go_enter Tryd.func26, Tryd.ntmps26
      go_wp2
      go_ret
      exact ⟨rfl, H0.out⟩
    · have p1 : (lc : Int) ≤ pl := by omega
      clear hin
      go_enter Tryd.func26, Tryd.ntmps26
      go_wp2
      go_ret
      exact ⟨rfl, H0.out⟩

theorem u8_two (x : Int) (h0 : 0 ≤ x) (h1 : x < 65536) : IntKind.u8.wrap (x / 256) = x / 256 ∧ IntKind.u8.wrap x = x % 256 := by
  rw [IntKind.wrap_u8, IntKind.wrap_u8]; omega

/-- A block just made is a slice. -/
theorem Sl.new (w : World) (xs : List Value) (t : TypeId) : Sl (w.alloc (.cells xs.toArray t)) (some ⟨w.heap.size, 0, none⟩) xs.length xs :=
  ⟨rfl, fun _ => ⟨w.heap.size, 0, rfl, by simp, fun j u hu => by
    rw [add_at, Nat.zero_add]
    have := World.cell?_alloc_new w xs.toArray t j
    rw [this]
    simpa using hu⟩⟩

set_option maxHeartbeats 400000 in
theorem apTwo_any (base : Nat) (A : Option Addr) (n cap : Nat) (xs : List Int) (x : Int) (w : World) (hown : w.ownsRow base 5 1 (.slice A n cap) n (xs.map (Value.int .u8))) (hb : base ≤ w.heap.size) (hn : n ≤ 100000) (h0 : 0 ≤ x) (h1 : x < 65536) :
    Calls Tryd.prog 64 #[.slice A n cap, .int .i64 x] w fun e w' => ∃ A' cap', e = .returned (.slice A' (n + 2) cap') ∧ w'.ownsRow base 5 1 (.slice A' (n + 2) cap') (n + 2) ((xs ++ Im.two x).map (Value.int .u8)) ∧ Below base w w' := by
  obtain ⟨i0, hi0, hz0, hz1, hz2⟩ := info_parts u8_info
  obtain ⟨e0, e1⟩ := u8_two x h0 h1
  have HO := Lib.hid hown
  clear hown
  go_enter Tryd.func64, Tryd.ntmps64
  go_wp2_with (at_builtin
               refine wpList_ap (w := w.alloc (.cells #[.int .u8 (x / 256), .int .u8 (x % 256)] 5)) rfl (.tmp 5) (.tmp 11) _ rfl base 5 i0 _ 1 Tryd.underlying22 hi0 hz0 hz1 hz2 rfl (.slice A n cap) n (xs.map (Value.int .u8)) rfl
                 (HO.out.alloc _) (some ⟨w.heap.size, 0, none⟩) 2 2 [.int .u8 (x / 256), .int .u8 (x % 256)] rfl (Sl.new w [.int .u8 (x / 256), .int .u8 (x % 256)] 5) (fun e => by cases e) (one_cell [x / 256, x % 256]) (by simp only [maxLen]; omega) (by omega) (by simp; omega) (n + 2) ((xs ++ Im.two x).map (Value.int .u8)) rfl (by simp [Im.two]) ?_
               intro A' cap' v2 hc1 hc2 hown hsl hb2)
  go_ret
  exact ⟨A', cap', rfl, hown, ((Below.refl _ _).alloc hb _).trans hb2⟩
end Go.Proofs.YtfhnigfghfmolaaDoor
namespace Go.Proofs.YtfhnigfghfmolaaDoor
set_option maxRecDepth 100000
open Go.RowKit

/-- A literal row, just made. -/
theorem own_lit (w : World) (xs : List Value) (t : TypeId) (hm : xs.length ≤ maxLen) : (w.alloc (.cells xs.toArray t)).ownsRow w.heap.size t 1 (.slice (some ⟨w.heap.size, 0, none⟩) xs.length xs.length) xs.length xs :=
  ⟨by omega, .inr ⟨w.heap.size, xs.length, xs.toArray, rfl, Nat.le_refl _, heap_alloc_new w _, Nat.le_refl _, hm, by simp, by simp⟩⟩
theorem Im.two_take (fs : List Int) (k : Nat) (h : k < fs.length) : (fs.take (k + 1)).flatMap Im.two = (fs.take k).flatMap Im.two ++ Im.two (fs.getD k 0) := by
  rw [List.take_succ_eq_append_getElem h, List.flatMap_append, List.getD_eq_getElem?_getD, List.getElem?_eq_getElem h]
  simp
theorem Im.two_len (fs : List Int) : (fs.flatMap Im.two).length = 2 * fs.length := by
  induction fs with
  | nil => rfl
  | cons a r ih => rw [List.flatMap_cons, List.length_append, ih]; simp [Im.two]; omega
theorem u8_small {x : Int} (h0 : 0 ≤ x) (h1 : x ≤ 255) : IntKind.u8.wrap x = x := by rw [IntKind.wrap_u8]; omega

/-- The bytes up to the functions' places. -/
def Im.front (p : Im.Pic) : List Int := [82, 66, 54, 52, 1, p.mem, p.stk, p.inp, p.ds.length] ++ p.ds ++ [(p.fs.length : Int)]
theorem Im.head_front (p : Im.Pic) : Im.head p = Im.front p ++ p.fs.flatMap Im.two ++ Im.two p.cs.length := rfl
theorem Im.front_len (p : Im.Pic) : (Im.front p).length = 10 + p.ds.length := by simp [Im.front]; omega

set_option maxRecDepth 10000 in
set_option maxHeartbeats 1600000 in
theorem head_any (mem stk inp : Int) (Ad : Option Addr) (ld cd : Nat) (Af : Option Addr) (lf cf : Nat) (Ac : Option Addr) (lc cc : Nat) (p : Im.Pic) (w : World) (hi : ImAt w Ad ld cd Af lf cf Ac lc cc p) (hC : Im.Cnt p) (e0 : p.mem = mem) (e1 : p.stk = stk) (e2 : p.inp = inp) :
    Calls Tryd.prog 43 #[.agg #[.int .i64 mem, .int .i64 stk, .int .i64 inp, .slice Ad ld cd, .slice Af lf cf, .slice Ac lc cc]] w fun e w' => ∃ A n cap, e = .returned (.slice A n cap) ∧ n ≤ 200 ∧ w'.ownsRow (w.heap.size + 1) 5 1 (.slice A n cap) n ((Im.head p).map (Value.int .u8)) ∧ Below w.heap.size w w' := by
  obtain ⟨i0, hi0, hz0, hz1, hz2⟩ := info_parts u8_info
  have hdl := Lib.hid hi.d.hlen
  have hfl := Lib.hid hi.f.hlen
  have hcl := Lib.hid hi.c.hlen
  obtain ⟨m1, m2, m3, m4, m5, m6, m7⟩ := hC
  rw [e0] at m1 m4
  rw [e1] at m2
  rw [e2] at m3
  rw [hdl.out] at m4
  rw [hfl.out] at m5
  rw [hcl.out] at m6 m7
  have HPP := Lib.hid m7
  have HI := Lib.hid hi
  have f0 : IntKind.u8.wrap mem = mem := u8_small (by omega) (by omega)
  have f1 : IntKind.u8.wrap stk = stk := u8_small (by omega) (by omega)
  have f2 : IntKind.u8.wrap inp = inp := u8_small (by omega) (by omega)
  have f3 : IntKind.u8.wrap (ld : Int) = ld := u8_small (by omega) (by omega)
  have f4 : IntKind.u8.wrap (lf : Int) = lf := u8_small (by omega) (by omega)
  have hld : ld ≤ 64 := by omega
  have hlf : lf ≤ 16 := by omega
  have hlc : lc ≤ 256 := by omega
  have hfr : Im.front p = [82, 66, 54, 52, 1, mem, stk, inp, ld] ++ p.ds ++ [(lf : Int)] := by unfold Im.front; rw [e0, e1, e2, hdl.out, hfl.out]
  have HFR := Lib.hid hfr
  have H0 := Lib.hid (Below.box w (.cells #[.int .i64 mem, .int .i64 stk, .int .i64 inp, .slice Ad ld cd, .slice Af lf cf, .slice Ac lc cc] 26))
  have HM := Lib.hid (And.intro m1 (And.intro m2 (And.intro m3 m4)))
  clear m1 m2 m3 m4 m5 m6 m7 hi hfr e0 e1 e2
  have hcv := Joins.run_convert_bytes_const_at (P := Tryd.prog) (w.alloc (.cells #[.int .i64 mem, .int .i64 stk, .int .i64 inp, .slice Ad ld cd, .slice Af lf cf, .slice Ac lc cc] 26)) 22 5 #[.int .u8 82, .int .u8 66, .int .u8 54, .int .u8 52] 4 4 (w.heap.size + 1) (by simp) Tryd.underlying22 Tryd.underlying5
  have B4 : (((w.alloc (.cells #[.int .i64 mem, .int .i64 stk, .int .i64 inp, .slice Ad ld cd, .slice Af lf cf, .slice Ac lc cc] 26)).alloc (.cells #[.int .u8 82, .int .u8 66, .int .u8 54, .int .u8 52] 5 (4, 5))).alloc (.cells #[.int .u8 1, .int .u8 mem, .int .u8 stk, .int .u8 inp, .int .u8 ld] 5)).heap[w.heap.size + 1]? = some (.cells #[.int .u8 82, .int .u8 66, .int .u8 54, .int .u8 52] 5 (4, 5)) := by
    rw [Below.heap_alloc _ _ _ (by simp)]
    have := heap_alloc_new (w.alloc (.cells #[.int .i64 mem, .int .i64 stk, .int .i64 inp, .slice Ad ld cd, .slice Af lf cf, .slice Ac lc cc] 26)) (.cells #[.int .u8 82, .int .u8 66, .int .u8 54, .int .u8 52] 5 (4, 5))
    rwa [World.size_alloc] at this
  have B5 : (((w.alloc (.cells #[.int .i64 mem, .int .i64 stk, .int .i64 inp, .slice Ad ld cd, .slice Af lf cf, .slice Ac lc cc] 26)).alloc (.cells #[.int .u8 82, .int .u8 66, .int .u8 54, .int .u8 52] 5 (4, 5))).alloc (.cells #[.int .u8 1, .int .u8 mem, .int .u8 stk, .int .u8 inp, .int .u8 ld] 5)).heap[w.heap.size + 2]? = some (.cells #[.int .u8 1, .int .u8 mem, .int .u8 stk, .int .u8 inp, .int .u8 ld] 5) := by
    have := heap_alloc_new ((w.alloc (.cells #[.int .i64 mem, .int .i64 stk, .int .i64 inp, .slice Ad ld cd, .slice Af lf cf, .slice Ac lc cc] 26)).alloc (.cells #[.int .u8 82, .int .u8 66, .int .u8 54, .int .u8 52] 5 (4, 5))) (.cells #[.int .u8 1, .int .u8 mem, .int .u8 stk, .int .u8 inp, .int .u8 ld] 5)
    rwa [World.size_alloc, World.size_alloc] at this
  have HB4 := Lib.hid B4
  have HB5 := Lib.hid B5
  clear B4 B5
  go_enter Tryd.func43, Tryd.ntmps43
  go_upto_region 2 with (
    at_builtin
    refine wpList_append_grows (((w.alloc (.cells #[.int .i64 mem, .int .i64 stk, .int .i64 inp, .slice Ad ld cd, .slice Af lf cf, .slice Ac lc cc] 26)).alloc (.cells #[.int .u8 82, .int .u8 66, .int .u8 54, .int .u8 52] 5 (4, 5))).alloc (.cells #[.int .u8 1, .int .u8 mem, .int .u8 stk, .int .u8 inp, .int .u8 ld] 5)) rfl (.tmp 7) (.tmp 21) 22 rfl 5 i0 _ 1 1 Tryd.underlying22 hi0 hz0 hz1 hz2 rfl (by decide)
      (some ⟨w.heap.size + 1, 0, none⟩) 4 4 [.int .u8 82, .int .u8 66, .int .u8 54, .int .u8 52] rfl (fun e => by cases e) rfl (fun b hb j u hu => by
        obtain rfl := Option.some.inj hb
        rw [add_at, Nat.zero_add, cell_of_row _ _ _ _ _ _ HB4.out]; simpa using hu)
      ⟨w.heap.size + 2, 0, none⟩ 5 5 [.int .u8 1, .int .u8 mem, .int .u8 stk, .int .u8 inp, .int .u8 ld] rfl rfl (fun j u hu => by
        rw [add_at, Nat.zero_add, cell_of_row _ _ _ _ _ _ HB5.out]; simpa using hu) (one_cell [1, mem, stk, inp, ld]) (by decide) (by decide) (by decide) ?_
    intro v1 w1 hown1 hgr1)
  obtain ⟨A1, cap1, rfl, hc1, hm1, hsl1, _⟩ := Sl.of_own hown1
  have HO1 := Lib.hid (Joins.ownsRow_le (base' := w.heap.size + 1) hown1 (by simp))
  have HW1 : Below (w.heap.size + 1) (w.alloc (.cells #[.int .i64 mem, .int .i64 stk, .int .i64 inp, .slice Ad ld cd, .slice Af lf cf, .slice Ac lc cc] 26)) w1 := (((Below.refl _ _).alloc (by simp) _).alloc (by simp) _).grown hgr1 (by simp) (fun k hk => by cases hk)
  have G0 : (w.alloc (.cells #[.int .i64 mem, .int .i64 stk, .int .i64 inp, .slice Ad ld cd, .slice Af lf cf, .slice Ac lc cc] 26)).cell? ⟨w.heap.size, 3, none⟩ = some (.slice Ad ld cd) := by simp
  have G4 : (w.alloc (.cells #[.int .i64 mem, .int .i64 stk, .int .i64 inp, .slice Ad ld cd, .slice Af lf cf, .slice Ac lc cc] 26)).cell? ⟨w.heap.size, 4, none⟩ = some (.slice Af lf cf) := by simp
  have G5 : (w.alloc (.cells #[.int .i64 mem, .int .i64 stk, .int .i64 inp, .slice Ad ld cd, .slice Af lf cf, .slice Ac lc cc] 26)).cell? ⟨w.heap.size, 5, none⟩ = some (.slice Ac lc cc) := by simp
  have HG4 := Lib.hid G4
  have HG5 := Lib.hid G5
  have c3 := cells_below HW1 G0 (by simp)
  have c4 := cells_below HW1 G4 (by simp)
  have HI1 := Lib.hid ((HI.out.below H0.out).below (HW1.mono (by simp)))
  have HB1 := Lib.hid HW1
  clear HW1 G0 G4 G5 hown1 hgr1 hsl1 hc1 hm1 HB4 HB5 hcv
  go_upto_region 3 with (
    at_builtin
    refine wpList_ap (w := w1) rfl (.tmp 23) (.tmp 25) _ rfl (w.heap.size + 1) 5 i0 _ 1 Tryd.underlying22 hi0 hz0 hz1 hz2 rfl (.slice A1 9 cap1) 9 _ rfl
      HO1.out Ad ld cd (p.ds.map (Value.int .u8)) rfl HI1.out.d.sl HI1.out.d.hnone (one_cell p.ds) (by simp only [maxLen]; omega) (by omega) (by have := HB1.out.size; simp at this; omega) (9 + ld) (([82, 66, 54, 52, 1, mem, stk, inp, (ld : Int)] ++ p.ds).map (Value.int .u8)) rfl (by simp) ?_
    intro A2 cap2 w2 hc1 hc2 hown2 hsl2 hb2)
  have hb2' := HB1.out.trans hb2
  have d4 := cells_below hb2' HG4.out (by simp)
  have d5 := cells_below hb2' HG5.out (by simp)
  have HB2 := Lib.hid hb2'
  have HO2 := Lib.hid hown2
  clear hb2' hown2 hsl2 hc1 hc2 hb2 c3 c4
  have hlt : w.heap.size < w2.heap.size := by have := HB2.out.size; simp at this; omega
  go_upto_region 4 with (
    at_builtin
    refine wpList_ap (w := w2.alloc (.cells #[.int .u8 lf] 5)) rfl (.tmp 27) (.tmp 32) _ rfl (w.heap.size + 1) 5 i0 _ 1 Tryd.underlying22 hi0 hz0 hz1 hz2 rfl (.slice A2 (9 + ld) cap2) (9 + ld) _ rfl
      (HO2.out.alloc _) (some ⟨w2.heap.size, 0, none⟩) 1 1 [.int .u8 lf] rfl (Sl.new w2 [.int .u8 lf] 5) (fun e => by cases e) (one_cell [(lf : Int)]) (by simp only [maxLen]; omega) (by omega) (by simp; omega) (10 + ld) ((Im.front p).map (Value.int .u8)) (by omega) (by rw [HFR.out]; simp) ?_
    intro A3 cap3 w3 hc1 hc2 hown3 hsl3 hb3)
  have hb3' := (HB2.out.alloc (by omega) (.cells #[.int .u8 lf] 5)).trans hb3
  have d4 := cells_below hb3' HG4.out (by simp)
  have d5 := cells_below hb3' HG5.out (by simp)
  have HB3 := Lib.hid hb3'
  have HO3 := Lib.hid hown3
  clear hb3' hown3 hsl3 hc1 hc2 hb3 HO1 HO2 HB1 HB2 HI1
  clear hlt
  go_wp2
  go_loopw [3, 37] (fun b i wr => ∃ k : Nat, k ≤ lf ∧ i = .int .i64 k ∧ (∃ A c, b = .slice A (10 + ld + 2 * k) c ∧ wr.ownsRow (w.heap.size + 1) 5 1 (.slice A (10 + ld + 2 * k) c) (10 + ld + 2 * k) ((Im.front p ++ (p.fs.take k).flatMap Im.two).map (Value.int .u8))) ∧ Below (w.heap.size + 1) (w.alloc (.cells #[.int .i64 mem, .int .i64 stk, .int .i64 inp, .slice Ad ld cd, .slice Af lf cf, .slice Ac lc cc] 26)) wr) (fun _ i _ => lf - (intOf i).toNat)
  case atStart => exact ⟨0, by omega, rfl, ⟨A3, cap3, rfl, by simpa using HO3.out⟩, HB3.out⟩
  case round =>
    obtain ⟨k, hk, rfl, ⟨A, c, rfl, hown⟩, hbr⟩ := hrel
    have c4 := cells_below hbr HG4.out (by simp)
    have c5 := cells_below hbr HG5.out (by simp)
    have HR := Lib.hid hbr
    have HO := Lib.hid hown
    clear hbr hown d4 d5
    have hsz : w.heap.size + 1 ≤ wr.heap.size := by have := HR.out.size; simp at this; omega
    have HSZ := Lib.hid hsz
    clear hsz
    by_cases hlt : k < lf
    · have hkf : k < p.fs.length := by have := hfl.out; omega
      obtain ⟨bf, of, rfl, hbf, hxf⟩ := ((HI.out.below H0.out).f.below (HR.out.mono (by simp))).mem (by omega)
      have ck := hxf k hlt
      have hz : ∃ z, p.fs.getD k 0 = z := ⟨_, rfl⟩
      obtain ⟨z, hz⟩ := hz
      rw [hz] at ck
      have z0 : 0 ≤ z := by rw [← hz]; exact HPP.out.nonneg hkf
      have z1 : z < 65536 := by
        have h1 := HPP.out.lt_till hkf
        have h2 := HPP.out.till_le hkf
        rw [hz] at h1
        omega
      have hnx : Im.front p ++ (p.fs.take k).flatMap Im.two ++ Im.two z = Im.front p ++ (p.fs.take (k + 1)).flatMap Im.two := by
        rw [Im.two_take _ _ hkf, hz, List.append_assoc]
      have HNX := Lib.hid hnx
      have HZ := Lib.hid hz
      have HKF := Lib.hid hkf
      clear hxf hnx hz hbf hkf
      go_wp2_with fail
      refine (apTwo_any (w.heap.size + 1) A (10 + ld + 2 * k) c (Im.front p ++ (p.fs.take k).flatMap Im.two) z wr HO.out HSZ.out (by omega) z0 z1).mono ?_
      rintro e v ⟨A', c', rfl, hown', hbv⟩
      rw [HNX.out] at hown'
      have HV := Lib.hid (HR.out.trans hbv)
      have HO' := Lib.hid hown'
      clear hbv hown'
      go_wp2
      go_roundw
      case rel => exact ⟨k + 1, by omega, by go_num, ⟨A', c', rfl, HO'.out⟩, HV.out⟩
      case measure => simp [intOf]; omega
    · have hkl : k = lf := by omega
      have HKL := Lib.hid hkl
      have htk : p.fs.take k = p.fs := List.take_of_length_le (by have := hfl.out; omega)
      rw [htk] at HO
      clear htk hkl
      go_wp2_with fail
      refine (apTwo_any (w.heap.size + 1) A (10 + ld + 2 * k) c (Im.front p ++ p.fs.flatMap Im.two) lc wr HO.out HSZ.out (by omega) (by omega) (by omega)).mono ?_
      rintro e v ⟨A', c', rfl, hown', hbv⟩
      have HV := Lib.hid (HR.out.trans hbv)
      have HO' := Lib.hid hown'
      clear hbv hown'
      go_wp2
      go_ret
      refine ⟨A', 10 + ld + 2 * k + 2, c', rfl, by omega, ?_, H0.out.trans (HV.out.mono (by omega))⟩
      have h := HO'.out
      rw [← hcl.out] at h
      exact h
end Go.Proofs.YtfhnigfghfmolaaDoor
namespace Go.Proofs.YtfhnigfghfmolaaDoor
set_option maxRecDepth 100000
open Go.RowKit

namespace Im
theorem mem_isB {xs : List Int} (h : Cd.isB xs) {x : Int} (hx : x ∈ xs) : 0 ≤ x ∧ x ≤ 255 := by
  obtain ⟨i, hi, rfl⟩ := List.getElem_of_mem hx
  have := h i
  rwa [List.getD_eq_getElem?_getD, List.getElem?_eq_getElem hi] at this
theorem isB_two {x : Int} (h0 : 0 ≤ x) (h1 : x < 65536) : Cd.isB (two x) := isB_of fun n hn => by
  simp [two] at hn
  omega
theorem isB_flat {α : Type} {l : List α} {f : α → List Int} (h : ∀ a ∈ l, Cd.isB (f a)) : Cd.isB (l.flatMap f) := isB_of fun n hn => by
  obtain ⟨a, ha, hn⟩ := List.mem_flatMap.1 hn
  exact mem_isB (h a ha) hn
theorem getD_mem {α : Type} {l : List α} {z a : α} (h : a ∈ l) : ∃ k, k < l.length ∧ l.getD k z = a := by
  obtain ⟨i, hi, rfl⟩ := List.getElem_of_mem h
  exact ⟨i, hi, by rw [List.getD_eq_getElem?_getD, List.getElem?_eq_getElem hi]; rfl⟩
theorem Places.lt {fs : List Int} {nc : Nat} (h : Places fs nc) {k : Nat} (hk : k < fs.length) : fs.getD k 0 < nc :=
  Int.lt_of_lt_of_le (h.lt_till hk) (h.till_le hk)
theorem isB_enc {p : Pic} (hC : Cnt p) (hd : Cd.isB p.ds) (hb : ∀ j, j < p.cs.length → bad5 (p.cs.getD j z5) = -1) : Cd.isB (enc p) := by
  obtain ⟨m1, m2, m3, m4, m5, m6, m7⟩ := hC
  have h1 : Cd.isB [82, 66, 54, 52, 1, p.mem, p.stk, p.inp, (p.ds.length : Int)] := isB_of fun n hn => by
    simp at hn
    omega
  have h2 : Cd.isB [(p.fs.length : Int)] := isB_of fun n hn => by
    simp at hn
    omega
  have h3 : Cd.isB (p.fs.flatMap two) := isB_flat fun x hx => by
    obtain ⟨k, hk, rfl⟩ := getD_mem (z := 0) hx
    have := m7.lt hk
    exact isB_two (m7.nonneg hk) (by omega)
  have h4 : Cd.isB (p.cs.flatMap bts5) := isB_flat fun x hx => by
    obtain ⟨k, hk, rfl⟩ := getD_mem (z := z5) hx
    exact isB_bts (hb k hk)
  exact isB_append (isB_append (isB_append (isB_append (isB_append h1 hd) h2) h3) (isB_two (by omega) (by omega))) h4
theorem bts_take (cs : List I5) (k : Nat) (h : k < cs.length) : (cs.take (k + 1)).flatMap bts5 = (cs.take k).flatMap bts5 ++ bts5 (cs.getD k z5) := by
  rw [List.take_succ_eq_append_getElem h, List.flatMap_append, List.getD_eq_getElem?_getD, List.getElem?_eq_getElem h]
  simp
theorem chk_cnt {p : Pic} (h : ¬ Cnt p) : chk p = 3 := by unfold chk; rw [if_neg h]
theorem chk_bad {p : Pic} {e : Int} (h : Cnt p) (he : firstE p.cs = e) (hn : e ≠ 0) : chk p = e := by unfold chk; rw [if_pos h, he, if_neg hn]
theorem chk_fl {p : Pic} (h : Cnt p) (he : firstE p.cs = 0) : chk p = if flB p.fs p.cs = true then 7 else 0 := by
  unfold chk flB
  rw [if_pos h, if_pos he]
  simp
theorem out_bad {p : Pic} (h : chk p ≠ 0) : out p = [] := by unfold out; rw [if_neg h]
theorem out_ok {p : Pic} (h : chk p = 0) : out p = enc p := by unfold out; rw [if_pos h]
end Im
theorem ret_tup {v : Value} {a b : Int} (h : a = b) : Ending.returned (.tuple #[v, .int .i64 a]) = .returned (.tuple #[v, .int .i64 b]) := by rw [h]
theorem blk_lt {w : World} {g : Nat} {t : TypeId} {cs : Array Value} (h : Blk w g t cs) : g < w.heap.size := by
  rcases Nat.lt_or_ge g w.heap.size with h1 | h1
  · exact h1
  · unfold Blk at h
    rw [Array.getElem?_eq_none h1] at h
    cases h
theorem own_below {w w' : World} {base : Nat} {e : TypeId} {size : Nat} {v : Value} {n : Nat} {xs : List Value} (h : w.ownsRow base e size v n xs) (hb : Below w.heap.size w w') : w'.ownsRow base e size v n xs :=
  ⟨h.1, h.2.elim Or.inl fun ⟨g, cap, cur, hv, hg, hh, r⟩ => Or.inr ⟨g, cap, cur, hv, hg, (hb.block g (blk_lt (t := e) (cs := cur) hh)).trans hh, r⟩⟩
theorem BySl.nil {w : World} : BySl w none 0 0 [] := ⟨rfl, Nat.le_refl _, Nat.zero_le _, fun _ => rfl, isB_of (fun n hn => absurd hn (by simp)), fun h0 => absurd h0 (by omega)⟩
theorem BySl.of_own {w : World} {base : Nat} {A : Option Addr} {n cap : Nat} {xs : List Int} (h : w.ownsRow base 5 1 (.slice A n cap) n (xs.map (Value.int .u8))) (hB : Cd.isB xs) : BySl w A n cap xs := by
  obtain ⟨A', cap', e, h1, h2, h3, _⟩ := Sl.of_own h
  injection e with e1 e2 e3
  subst e1 e3
  refine ⟨by simpa using h3.1, h1, h2, fun hn => ?_, hB, fun h0 => byts_of_sl h3 h0⟩
  rcases Nat.eq_zero_or_pos n with h0 | h0
  · exact h0
  · obtain ⟨b, o, e, _⟩ := h3.2 h0
    rw [hn] at e; cases e

set_option maxHeartbeats 400000 in
theorem encode_cnt (mem stk inp : Int) (Ad : Option Addr) (ld cd : Nat) (Af : Option Addr) (lf cf : Nat) (Ac : Option Addr) (lc cc : Nat) (p : Im.Pic) (w : World) (hi : ImAt w Ad ld cd Af lf cf Ac lc cc p) (hC : ¬ Im.Cnt p) (e0 : p.mem = mem) (e1 : p.stk = stk) (e2 : p.inp = inp) :
    Calls Tryd.prog 28 #[.agg #[.int .i64 mem, .int .i64 stk, .int .i64 inp, .slice Ad ld cd, .slice Af lf cf, .slice Ac lc cc]] w fun e w' => e = .returned (.tuple #[.slice none 0 0, .int .i64 3]) ∧ Below w.heap.size w w' := by
  have hCF : ∀ W : World, ImAt W Ad ld cd Af lf cf Ac lc cc p → Calls Tryd.prog 42 #[.agg #[.int .i64 mem, .int .i64 stk, .int .i64 inp, .slice Ad ld cd, .slice Af lf cf, .slice Ac lc cc]] W fun e w' => e = .returned (.bool false) ∧ Below W.heap.size W w' := fun W h => by
    have := counts_any mem stk inp Ad ld cd Af lf cf Ac lc cc p W h e0 e1 e2
    rwa [decide_eq_false hC] at this
  have HC := Lib.hid hCF
  have HI := Lib.hid (hi.below (Below.box w (.cells #[.int .i64 mem, .int .i64 stk, .int .i64 inp, .slice Ad ld cd, .slice Af lf cf, .slice Ac lc cc] 26)))
  clear hCF hi hC e0 e1 e2
  go_enter Tryd.func28, Tryd.ntmps28
  go_wp2_with fail
  refine (HC.out _ HI.out).mono ?_
  rintro e v ⟨rfl, hb⟩
  have HB := Lib.hid hb
  clear hb
  go_wp2
  go_ret2
  exact ⟨rfl, (Below.box _ _).trans (HB.out.mono (by simp))⟩

set_option maxRecDepth 10000 in
set_option maxHeartbeats 1600000 in
theorem encode_right (mem stk inp : Int) (Ad : Option Addr) (ld cd : Nat) (Af : Option Addr) (lf cf : Nat) (Ac : Option Addr) (lc cc : Nat) (p : Im.Pic) (w : World) (ho : Ops w) (hi : ImAt w Ad ld cd Af lf cf Ac lc cc p) (hC : Im.Cnt p) (e0 : p.mem = mem) (e1 : p.stk = stk) (e2 : p.inp = inp) :
    Calls Tryd.prog 28 #[.agg #[.int .i64 mem, .int .i64 stk, .int .i64 inp, .slice Ad ld cd, .slice Af lf cf, .slice Ac lc cc]] w fun e w' => ∃ A n cap, e = .returned (.tuple #[.slice A n cap, .int .i64 (Im.chk p)]) ∧ BySl w' A n cap (Im.out p) ∧ Below w.heap.size w w' := by
  obtain ⟨i0, hi0, hz0, hz1, hz2⟩ := info_parts u8_info
  have hCF : ∀ W : World, ImAt W Ad ld cd Af lf cf Ac lc cc p → Calls Tryd.prog 42 #[.agg #[.int .i64 mem, .int .i64 stk, .int .i64 inp, .slice Ad ld cd, .slice Af lf cf, .slice Ac lc cc]] W fun e w' => e = .returned (.bool true) ∧ Below W.heap.size W w' := fun W h => by
    have := counts_any mem stk inp Ad ld cd Af lf cf Ac lc cc p W h e0 e1 e2
    rwa [decide_eq_true hC] at this
  have hHF : ∀ W : World, ImAt W Ad ld cd Af lf cf Ac lc cc p → Calls Tryd.prog 43 #[.agg #[.int .i64 mem, .int .i64 stk, .int .i64 inp, .slice Ad ld cd, .slice Af lf cf, .slice Ac lc cc]] W fun e w' => ∃ A n cap, e = .returned (.slice A n cap) ∧ n ≤ 200 ∧ w'.ownsRow (W.heap.size + 1) 5 1 (.slice A n cap) n ((Im.head p).map (Value.int .u8)) ∧ Below W.heap.size W w' :=
    fun W h => head_any mem stk inp Ad ld cd Af lf cf Ac lc cc p W h hC e0 e1 e2
  have hcl := Lib.hid hi.c.hlen
  have hfl := Lib.hid hi.f.hlen
  have hFL : ∀ W : World, ImAt W Ad ld cd Af lf cf Ac lc cc p → Calls Tryd.prog 45 #[.agg #[.int .i64 mem, .int .i64 stk, .int .i64 inp, .slice Ad ld cd, .slice Af lf cf, .slice Ac lc cc]] W fun e w' => e = .returned (.tuple #[.int .i64 (Im.flI p.fs p.cs), .bool (Im.flB p.fs p.cs)]) ∧ Below W.heap.size W w' :=
    fun W h => flaw_any mem stk inp Ad ld cd Af lf cf Ac lc cc p W h (by rw [← hcl.out]; exact hC.2.2.2.2.2.2) (by rw [← hfl.out]; exact hC.2.2.2.2.1.1)
  have hlc : lc ≤ 256 := by rw [← hcl.out]; exact hC.2.2.2.2.2.1.2
  have hp := ho.pos
  have HC := Lib.hid hCF
  have HH := Lib.hid hHF
  have HF := Lib.hid hFL
  have HCN := Lib.hid hC
  have H0 := Lib.hid (Below.box w (.cells #[.int .i64 mem, .int .i64 stk, .int .i64 inp, .slice Ad ld cd, .slice Af lf cf, .slice Ac lc cc] 26))
  have HI := Lib.hid hi
  have HOP := Lib.hid ho
  have HRG := Lib.hid hi.c.rng
  clear hCF hHF hFL hi hC ho e0 e1 e2
  have b0 : (w.alloc (.cells #[.int .i64 mem, .int .i64 stk, .int .i64 inp, .slice Ad ld cd, .slice Af lf cf, .slice Ac lc cc] 26)).cell? ⟨w.heap.size, 0, none⟩ = some (.int .i64 mem) := by simp
  have b1 : (w.alloc (.cells #[.int .i64 mem, .int .i64 stk, .int .i64 inp, .slice Ad ld cd, .slice Af lf cf, .slice Ac lc cc] 26)).cell? ⟨w.heap.size, 1, none⟩ = some (.int .i64 stk) := by simp
  have b2 : (w.alloc (.cells #[.int .i64 mem, .int .i64 stk, .int .i64 inp, .slice Ad ld cd, .slice Af lf cf, .slice Ac lc cc] 26)).cell? ⟨w.heap.size, 2, none⟩ = some (.int .i64 inp) := by simp
  have b3 : (w.alloc (.cells #[.int .i64 mem, .int .i64 stk, .int .i64 inp, .slice Ad ld cd, .slice Af lf cf, .slice Ac lc cc] 26)).cell? ⟨w.heap.size, 3, none⟩ = some (.slice Ad ld cd) := by simp
  have b4 : (w.alloc (.cells #[.int .i64 mem, .int .i64 stk, .int .i64 inp, .slice Ad ld cd, .slice Af lf cf, .slice Ac lc cc] 26)).cell? ⟨w.heap.size, 4, none⟩ = some (.slice Af lf cf) := by simp
  have b5 : (w.alloc (.cells #[.int .i64 mem, .int .i64 stk, .int .i64 inp, .slice Ad ld cd, .slice Af lf cf, .slice Ac lc cc] 26)).cell? ⟨w.heap.size, 5, none⟩ = some (.slice Ac lc cc) := by simp
  have G0 := Lib.hid b0
  have G1 := Lib.hid b1
  have G2 := Lib.hid b2
  have G3 := Lib.hid b3
  have G4 := Lib.hid b4
  have G5 := Lib.hid b5
  clear b0 b1 b2 b3 b4 b5
  go_enter Tryd.func28, Tryd.ntmps28
  go_wp2_with fail
  refine (HC.out _ (HI.out.below H0.out)).mono ?_
  rintro e v ⟨rfl, hb⟩
  have hbv : Below (w.heap.size + 1) (w.alloc (.cells #[.int .i64 mem, .int .i64 stk, .int .i64 inp, .slice Ad ld cd, .slice Af lf cf, .slice Ac lc cc] 26)) v := hb.mono (by simp)
  have c0 := cells_below hbv G0.out (by simp)
  have c1 := cells_below hbv G1.out (by simp)
  have c2 := cells_below hbv G2.out (by simp)
  have c3 := cells_below hbv G3.out (by simp)
  have c4 := cells_below hbv G4.out (by simp)
  have c5 := cells_below hbv G5.out (by simp)
  have HV := Lib.hid hbv
  clear hb hbv
  go_wp2_with fail
  refine (HH.out _ ((HI.out.below H0.out).below (HV.out.mono (by simp)))).mono ?_
  rintro e v1 ⟨A1, n1, cap1, rfl, hn1, hown1, hb1⟩
  have hbv : Below (w.heap.size + 1) (w.alloc (.cells #[.int .i64 mem, .int .i64 stk, .int .i64 inp, .slice Ad ld cd, .slice Af lf cf, .slice Ac lc cc] 26)) v1 := HV.out.trans (hb1.mono (by have := HV.out.size; simp at this; omega))
  have hvz : w.heap.size + 1 ≤ v.heap.size := by have := HV.out.size; simp at this; omega
  have d5 := cells_below hbv G5.out (by simp)
  have HV1 := Lib.hid hbv
  have HO1 := Lib.hid (Joins.ownsRow_le (base' := w.heap.size + 1) hown1 (by omega))
  clear hb1 hbv hown1 c0 c1 c2 c3 c4 c5
  clear hvz
  go_wp2
  go_loopw [4, 19] (fun b i wr => ∃ k : Nat, k ≤ lc ∧ i = .int .i64 k ∧ (∃ A c, b = .slice A (n1 + 12 * k) c ∧ wr.ownsRow (w.heap.size + 1) 5 1 (.slice A (n1 + 12 * k) c) (n1 + 12 * k) ((Im.head p ++ (p.cs.take k).flatMap Im.bts5).map (Value.int .u8))) ∧ Below (w.heap.size + 1) (w.alloc (.cells #[.int .i64 mem, .int .i64 stk, .int .i64 inp, .slice Ad ld cd, .slice Af lf cf, .slice Ac lc cc] 26)) wr ∧ ∀ j, j < k → Im.bad5 (p.cs.getD j Im.z5) = -1) (fun _ i _ => lc - (intOf i).toNat)
  case atStart => exact ⟨0, by omega, rfl, ⟨A1, cap1, rfl, by simpa using HO1.out⟩, HV1.out, fun j hj => absurd hj (by omega)⟩
  case round =>
    obtain ⟨k, hk, rfl, ⟨A, c, rfl, hown⟩, hbr, hall⟩ := hrel
    have HR := Lib.hid hbr
    have HO := Lib.hid hown
    have HA := Lib.hid hall
    have hsz : w.heap.size + 1 ≤ wr.heap.size := by have := hbr.size; simp at this; omega
    have HSZ := Lib.hid hsz
    have c0 := cells_below hbr G0.out (by simp)
    have c1 := cells_below hbr G1.out (by simp)
    have c2 := cells_below hbr G2.out (by simp)
    have c3 := cells_below hbr G3.out (by simp)
    have c4 := cells_below hbr G4.out (by simp)
    have c5 := cells_below hbr G5.out (by simp)
    clear hbr hown hall hsz d5
    by_cases hlt : k < lc
    · have hkc : k < p.cs.length := by have := hcl.out; omega
      obtain ⟨bc, oc, rfl, hbc, hcc⟩ := ((HI.out.below H0.out).c.below (HR.out.mono (by simp))).mem (by omega)
      have hins := hcc k hlt
      have hm := HRG.out k
      have hI5 : ∃ i, p.cs.getD k Im.z5 = i := ⟨_, rfl⟩
      obtain ⟨⟨op, a, b, c', m⟩, hei⟩ := hI5
      rw [hei] at hins hm
      obtain ⟨x0, x1, x2, x3, x4⟩ := hins
      simp only at x0 x1 x2 x3 x4 hm
      have HE := Lib.hid hei
      have HM := Lib.hid hm
      have hop : ∀ o, Ops (wr.alloc o) := fun o => HOP.out.below (H0.out.trans ((HR.out.alloc (HSZ.out) o).mono (by omega))) hp
      have HOPr := Lib.hid hop
      clear hei hcc hm hop
      by_cases hbad : Cd.bad op a b c' m = -1
      · have HBD := Lib.hid hbad
        clear hbad
        go_wp2_with fail
        refine (put_ok op a b c' m _ (HOPr.out _) HBD.out HM.out.1 HM.out.2).mono ?_
        rintro e v2 ⟨g, rfl, hg, hblk, hb2⟩
        have hb2' : Below (w.heap.size + 1) (w.alloc (.cells #[.int .i64 mem, .int .i64 stk, .int .i64 inp, .slice Ad ld cd, .slice Af lf cf, .slice (some ⟨bc, oc, none⟩) lc cc] 26)) v2 := (HR.out.alloc HSZ.out _).trans (hb2.mono (by simp; have := HSZ.out; omega))
        have hsl : Sl v2 (some ⟨g, 0, none⟩) 12 ((Cd.bts op a b c' m).map (Value.int .u8)) := ⟨rfl, fun _ => ⟨g, 0, rfl, blk_lt hblk, (Byts.of_blk hblk).news⟩⟩
        have hown2 : v2.ownsRow (w.heap.size + 1) 5 1 (.slice A (n1 + 12 * k) c) (n1 + 12 * k) ((Im.head p ++ (p.cs.take k).flatMap Im.bts5).map (Value.int .u8)) := own_below (HO.out.alloc _) hb2
        have HS2 := Lib.hid hsl
        have HB2 := Lib.hid hb2'
        have HO2 := Lib.hid hown2
        have hnx : Im.head p ++ (p.cs.take k).flatMap Im.bts5 ++ Cd.bts op a b c' m = Im.head p ++ (p.cs.take (k + 1)).flatMap Im.bts5 := by
          rw [Im.bts_take _ _ hkc, HE.out, List.append_assoc]; rfl
        have HNX := Lib.hid hnx
        clear hsl hb2' hown2 hnx hblk hb2 hg
        go_wp2_with (
          at_builtin
          refine wpList_ap (w := v2) rfl (.tmp 31) (.tmp 32) _ rfl (w.heap.size + 1) 5 i0 _ 1 Tryd.underlying22 hi0 hz0 hz1 hz2 rfl (.slice A (n1 + 12 * k) c) (n1 + 12 * k) _ rfl
            HO2.out (some ⟨g, 0, none⟩) 12 12 ((Cd.bts op a b c' m).map (Value.int .u8)) rfl HS2.out (fun e => by cases e) (one_cell _) (by simp only [maxLen]; omega) (by omega) (by have := HB2.out.size; simp at this; omega) (n1 + 12 * (k + 1)) ((Im.head p ++ (p.cs.take (k + 1)).flatMap Im.bts5).map (Value.int .u8)) (by omega) (by rw [← HNX.out]; simp) ?_
          intro A3 cap3 w3 hc1 hc2 hown3 hsl3 hb3)
        go_roundw
        case rel =>
          refine ⟨k + 1, by omega, by go_num, ⟨A3, cap3, rfl, hown3⟩, HB2.out.trans hb3, fun j hj => ?_⟩
          rcases Nat.lt_succ_iff_lt_or_eq.1 hj with h | h
          · exact HA.out j h
          · rw [h, HE.out]; exact HBD.out
        case measure => simp [intOf]; omega
      · have hck : Im.chk p = Cd.er (Cd.bad op a b c' m) := by
          have h1 := Im.firstE_at p.cs k hkc HA.out (by rw [HE.out]; exact hbad)
          rw [HE.out] at h1
          exact Im.chk_bad HCN.out h1 (Im.er_ne hbad)
        have hne : (Cd.er (Cd.bad op a b c' m) != 0) = true := by simpa using Im.er_ne hbad
        have HBD := Lib.hid hbad
        have HCK := Lib.hid hck
        clear hck hbad
        go_wp2_with fail
        refine (put_bad op a b c' m _ (HOPr.out _) HBD.out).mono ?_
        rintro e v2 ⟨rfl, hb2⟩
        have HB2 := Lib.hid hb2
        clear hb2
        go_wp2
        go_ret2
        refine ⟨none, 0, 0, ret_tup HCK.out.symm, ?_, H0.out.trans (((HR.out.alloc HSZ.out _).trans (HB2.out.mono (by simp; have := HSZ.out; omega))).mono (by omega))⟩
        rw [Im.out_bad (by rw [HCK.out]; exact Im.er_ne HBD.out)]
        exact BySl.nil
    · have hkl : k = lc := by omega
      have htk : p.cs.take k = p.cs := List.take_of_length_le (by have := hcl.out; omega)
      rw [htk] at HO
      have hall : ∀ j, j < p.cs.length → Im.bad5 (p.cs.getD j Im.z5) = -1 := fun j hj => HA.out j (by have := hcl.out; omega)
      have hck := Im.chk_fl HCN.out (Im.firstE_none _ hall)
      have HIB := Lib.hid (Im.isB_enc HCN.out HI.out.d.isB hall)
      have HCK := Lib.hid hck
      have hF : ∃ f, Im.flB p.fs p.cs = f := ⟨_, rfl⟩
      obtain ⟨f, hf⟩ := hF
      have hFL : Calls Tryd.prog 45 #[.agg #[.int .i64 mem, .int .i64 stk, .int .i64 inp, .slice Ad ld cd, .slice Af lf cf, .slice Ac lc cc]] wr fun e w' => e = .returned (.tuple #[.int .i64 (Im.flI p.fs p.cs), .bool f]) ∧ Below wr.heap.size wr w' := by
        have := HF.out wr ((HI.out.below H0.out).below (HR.out.mono (by simp)))
        rwa [hf] at this
      have HFF := Lib.hid hf
      have HFL := Lib.hid hFL
      clear hck htk hkl hall hf hFL
      go_wp2_with fail
      refine HFL.out.mono ?_
      rintro e v2 ⟨rfl, hb2⟩
      have hown2 : v2.ownsRow (w.heap.size + 1) 5 1 (.slice A (n1 + 12 * k) c) (n1 + 12 * k) ((Im.head p ++ p.cs.flatMap Im.bts5).map (Value.int .u8)) := own_below HO.out hb2
      have HO2 := Lib.hid hown2
      have HB2 := Lib.hid (H0.out.trans ((HR.out.trans (hb2.mono HSZ.out)).mono (by omega)))
      clear hb2 hown2
      go_wp2
      · go_ret2
        have h1 : Im.chk p = 7 := by rw [HCK.out, HFF.out]; simp_all
        refine ⟨none, 0, 0, ret_tup h1.symm, ?_, HB2.out⟩
        rw [Im.out_bad (by rw [h1]; decide)]
        exact BySl.nil
      · go_ret2
        have h1 : Im.chk p = 0 := by rw [HCK.out, HFF.out]; simp_all
        refine ⟨_, _, _, ret_tup h1.symm, ?_, HB2.out⟩
        rw [Im.out_ok h1]
        exact BySl.of_own HO2.out HIB.out

theorem encode_any (mem stk inp : Int) (Ad : Option Addr) (ld cd : Nat) (Af : Option Addr) (lf cf : Nat) (Ac : Option Addr) (lc cc : Nat) (p : Im.Pic) (w : World) (ho : Ops w) (hi : ImAt w Ad ld cd Af lf cf Ac lc cc p) (e0 : p.mem = mem) (e1 : p.stk = stk) (e2 : p.inp = inp) :
    Calls Tryd.prog 28 #[.agg #[.int .i64 mem, .int .i64 stk, .int .i64 inp, .slice Ad ld cd, .slice Af lf cf, .slice Ac lc cc]] w fun e w' => ∃ A n cap, e = .returned (.tuple #[.slice A n cap, .int .i64 (Im.chk p)]) ∧ BySl w' A n cap (Im.out p) ∧ Below w.heap.size w w' := by
  by_cases hC : Im.Cnt p
  · exact encode_right mem stk inp Ad ld cd Af lf cf Ac lc cc p w ho hi hC e0 e1 e2
  · refine (encode_cnt mem stk inp Ad ld cd Af lf cf Ac lc cc p w hi hC e0 e1 e2).mono ?_
    rintro e w' ⟨rfl, hb⟩
    have h1 := Im.chk_cnt hC
    exact ⟨none, 0, 0, by rw [h1], by rw [Im.out_bad (by rw [h1]; decide)]; exact BySl.nil, hb⟩
end Go.Proofs.YtfhnigfghfmolaaDoor
