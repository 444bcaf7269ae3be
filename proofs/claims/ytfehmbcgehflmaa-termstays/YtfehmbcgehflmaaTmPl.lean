/-
  Layer 6 as plain functions: nodes, whether one is right behind others, lists that are terms.
-/
import Derived.KernelRfl
namespace Go.Proofs.Ytfehmbcgehflmaa
set_option linter.unusedSimpArgs false
set_option linter.unusedVariables false
namespace Tm

/-- A node. -/
structure Nd where
  op : Int
  w : Int
  n : Int
  a : Int
  b : Int
  c : Int
deriving DecidableEq
def z : Nd := ⟨0, 0, 0, 0, 0, 0⟩

/-- How many kids. -/
def kidn (op : Int) : Nat := if op < 5 ∨ 24 < op then 0 else if op ≤ 7 then 1 else if op = 22 ∨ op = 24 then 3 else 2
theorem kidn_le (op : Int) : kidn op ≤ 3 := by unfold kidn; split <;> (try split) <;> (try split) <;> omega

theorem kidn_spec (op : Int) : ((op < 5 ∨ 24 < op) ∧ kidn op = 0) ∨ (5 ≤ op ∧ op ≤ 7 ∧ kidn op = 1) ∨ ((op = 22 ∨ op = 24) ∧ kidn op = 3) ∨ (8 ≤ op ∧ op ≤ 23 ∧ op ≠ 22 ∧ kidn op = 2) := by
  unfold kidn; split <;> (try split) <;> (try split) <;> omega

/-- Is a kid that it has ahead of the place? -/
def inn (a : Int) (len : Nat) : Bool := decide (0 ≤ a) && decide (a < len)
theorem inn_iff {a : Int} {len : Nat} : inn a len = true ↔ 0 ≤ a ∧ a < len := by simp [inn]
/-- Each kid that it has stands ahead, each other one is 0. -/
def kok (n : Nd) (len : Nat) : Bool :=
  (if 1 ≤ kidn n.op then inn n.a len else n.a == 0) && ((if 2 ≤ kidn n.op then inn n.b len else n.b == 0) && (if 3 ≤ kidn n.op then inn n.c len else n.c == 0))
def wd (X : List Nd) (a : Int) : Int := (X.getD a.toNat z).w
/-- The kids' widths. -/
def w0 (n : Nd) (X : List Nd) : Int := if 1 ≤ kidn n.op then wd X n.a else 0
def w1 (n : Nd) (X : List Nd) : Int := if 2 ≤ kidn n.op then wd X n.b else 0
def w2 (n : Nd) (X : List Nd) : Int := if 3 ≤ kidn n.op then wd X n.c else 0
def alike (x y : Int) : Bool := (x == y) && (x != 0)
/-- Are the widths so? -/
def wok (op w x y v : Int) : Bool :=
  if op = 0 then (w == 1 || w == 8) || w == 64
  else if op = 1 then w == 8
  else if op = 2 then w == 64
  else if op = 3 ∨ op = 4 then w == 0
  else if op = 5 then x != 0 && w == x
  else if op = 6 then (x == 1 || x == 8) && w == 64
  else if op = 7 then x == 64 && w == 8
  else if op = 19 ∨ op = 20 ∨ op = 21 then alike x y && w == 1
  else if op = 22 then (x == 1 && alike y v) && w == y
  else if op = 23 then (x == 0 && y == 64) && w == 8
  else if op = 24 then ((x == 0 && y == 64) && v == 8) && w == 0
  else alike x y && w == x
/-- Is the number so (where the width is)? -/
def nok (op w n : Int) : Bool :=
  if op = 0 then (if w = 1 then decide (n < 2) else if w = 8 then decide (n < 256) else true)
  else if op = 1 then decide (n < 16)
  else if op = 2 then decide (n < 8)
  else n == 0
/-- A node's error behind the first len nodes of X. -/
def flt (n : Nd) (len : Nat) (X : List Nd) : Int :=
  if n.op < 0 ∨ 24 < n.op then 4 else if kok n len = false then 9 else if wok n.op n.w (w0 n X) (w1 n X) (w2 n X) = false then 8 else if nok n.op n.w n.n = false then 3 else 0

/-- The reference's words for widths and numbers. -/
def rwid (op w x y v : Int) : Int :=
  if op = 0 then (if w = 1 ∨ w = 8 ∨ w = 64 then w else -1)
  else if op = 1 then 8
  else if op = 2 then 64
  else if op = 3 ∨ op = 4 then 0
  else if op = 5 then (if x ≠ 0 then x else -1)
  else if op = 6 then (if x = 1 ∨ x = 8 then 64 else -1)
  else if op = 7 then (if x = 64 then 8 else -1)
  else if op = 19 ∨ op = 20 ∨ op = 21 then (if x ≠ 0 ∧ x = y then 1 else -1)
  else if op = 22 then (if x = 1 ∧ y ≠ 0 ∧ y = v then y else -1)
  else if op = 23 then (if x = 0 ∧ y = 64 then 8 else -1)
  else if op = 24 then (if x = 0 ∧ y = 64 ∧ v = 8 then 0 else -1)
  else (if x ≠ 0 ∧ x = y then x else -1)
def mst (op w : Int) : Int := if op = 0 then (if w = 1 then 1 else if w = 8 then 255 else 18446744073709551615) else if op = 1 then 15 else if op = 2 then 7 else 0
set_option maxHeartbeats 1000000 in
theorem wok_ref {op w x y v : Int} (hx : 0 ≤ x) (hy : 0 ≤ y) : wok op w x y v = true ↔ ¬ (rwid op w x y v ≠ w ∨ w < 0) := by
  unfold wok rwid alike
  by_cases h : op = 0
  · rw [if_pos h, if_pos h]; clear h; simp only [Bool.or_eq_true, Bool.and_eq_true, beq_iff_eq, bne_iff_ne, ne_eq]; first | omega | (split <;> omega)
  rw [if_neg h, if_neg h]; clear h
  by_cases h : op = 1
  · rw [if_pos h, if_pos h]; clear h; simp only [Bool.or_eq_true, Bool.and_eq_true, beq_iff_eq, bne_iff_ne, ne_eq]; first | omega | (split <;> omega)
  rw [if_neg h, if_neg h]; clear h
  by_cases h : op = 2
  · rw [if_pos h, if_pos h]; clear h; simp only [Bool.or_eq_true, Bool.and_eq_true, beq_iff_eq, bne_iff_ne, ne_eq]; first | omega | (split <;> omega)
  rw [if_neg h, if_neg h]; clear h
  by_cases h : op = 3 ∨ op = 4
  · rw [if_pos h, if_pos h]; clear h; simp only [Bool.or_eq_true, Bool.and_eq_true, beq_iff_eq, bne_iff_ne, ne_eq]; first | omega | (split <;> omega)
  rw [if_neg h, if_neg h]; clear h
  by_cases h : op = 5
  · rw [if_pos h, if_pos h]; clear h; simp only [Bool.or_eq_true, Bool.and_eq_true, beq_iff_eq, bne_iff_ne, ne_eq]; first | omega | (split <;> omega)
  rw [if_neg h, if_neg h]; clear h
  by_cases h : op = 6
  · rw [if_pos h, if_pos h]; clear h; simp only [Bool.or_eq_true, Bool.and_eq_true, beq_iff_eq, bne_iff_ne, ne_eq]; first | omega | (split <;> omega)
  rw [if_neg h, if_neg h]; clear h
  by_cases h : op = 7
  · rw [if_pos h, if_pos h]; clear h; simp only [Bool.or_eq_true, Bool.and_eq_true, beq_iff_eq, bne_iff_ne, ne_eq]; first | omega | (split <;> omega)
  rw [if_neg h, if_neg h]; clear h
  by_cases h : op = 19 ∨ op = 20 ∨ op = 21
  · rw [if_pos h, if_pos h]; clear h; simp only [Bool.or_eq_true, Bool.and_eq_true, beq_iff_eq, bne_iff_ne, ne_eq]; first | omega | (split <;> omega)
  rw [if_neg h, if_neg h]; clear h
  by_cases h : op = 22
  · rw [if_pos h, if_pos h]; clear h; simp only [Bool.or_eq_true, Bool.and_eq_true, beq_iff_eq, bne_iff_ne, ne_eq]; first | omega | (split <;> omega)
  rw [if_neg h, if_neg h]; clear h
  by_cases h : op = 23
  · rw [if_pos h, if_pos h]; clear h; simp only [Bool.or_eq_true, Bool.and_eq_true, beq_iff_eq, bne_iff_ne, ne_eq]; first | omega | (split <;> omega)
  rw [if_neg h, if_neg h]; clear h
  by_cases h : op = 24
  · rw [if_pos h, if_pos h]; clear h; simp only [Bool.or_eq_true, Bool.and_eq_true, beq_iff_eq, bne_iff_ne, ne_eq]; first | omega | (split <;> omega)
  rw [if_neg h, if_neg h]; clear h
  simp only [Bool.or_eq_true, Bool.and_eq_true, beq_iff_eq, bne_iff_ne, ne_eq]; split <;> omega
theorem nok_ref {op w n : Int} (h0 : 0 ≤ n) (h1 : n ≤ 18446744073709551615) : nok op w n = true ↔ ¬ mst op w < n := by
  unfold nok mst
  repeat' split
  all_goals simp_all
  all_goals omega

/-- The error at a place of a list. -/
def fltAt (X : List Nd) (k : Nat) : Int := flt (X.getD k z) k X
def chk (X : List Nd) : Int × Int :=
  if X.length = 0 then (11, 0) else match (List.range X.length).find? (fun k => fltAt X k != 0) with
    | some k => (fltAt X k, (k : Int))
    | none => (0, 0)
theorem chk_nil {X : List Nd} (h : X.length = 0) : chk X = (11, 0) := by rw [chk, if_pos h]
theorem chk_bad {X : List Nd} {k : Nat} (hk : k < X.length) (hf : fltAt X k ≠ 0) (ha : ∀ j, j < k → fltAt X j = 0) : chk X = (fltAt X k, (k : Int)) := by
  have h : (List.range X.length).find? (fun k => fltAt X k != 0) = some k := by
    rw [List.find?_range_eq_some]
    exact ⟨by simpa using hf, by simpa using hk, fun j hj => by simp [ha j hj]⟩
  rw [chk, if_neg (by omega), h]
theorem chk_ok {X : List Nd} (hk : 0 < X.length) (ha : ∀ j, j < X.length → fltAt X j = 0) : chk X = (0, 0) := by
  have h : (List.range X.length).find? (fun k => fltAt X k != 0) = none := by
    rw [List.find?_range_eq_none]
    exact fun j hj => by simp [ha j hj]
  rw [chk, if_neg (by omega), h]
theorem flt_ne {n : Nd} {len : Nat} {X : List Nd} : flt n len X = 0 ∨ flt n len X = 3 ∨ flt n len X = 4 ∨ flt n len X = 8 ∨ flt n len X = 9 := by
  unfold flt; split <;> (try split) <;> (try split) <;> (try split) <;> simp
end Tm
end Go.Proofs.Ytfehmbcgehflmaa
