/-
  What bytes tell, as plain functions: part by part, the first that is wrong; else an image.
-/
import Derived.Test.YtjadiijjahjjoaaDoorImR2
namespace Go.Proofs.YtjadiijjahjjoaaDoor
namespace Im

def letters : List Int := [82, 66, 54, 52]
/-- A number of k bytes at i, from lo to hi; c is what comes behind. -/
def nm (xs : List Int) (i k : Nat) (lo hi : Int) (c : Int × Int) : Int × Int := if xs.length < i + k then (1, xs.length) else if lo ≤ num xs i k ∧ num xs i k ≤ hi then c else (3, i)
theorem nm_short {xs : List Int} {i k : Nat} {lo hi : Int} (h : xs.length < i + k) (c : Int × Int) : nm xs i k lo hi c = (1, (xs.length : Int)) := by unfold nm; rw [if_pos h]
theorem nm_bad {xs : List Int} {i k : Nat} {lo hi : Int} (h : i + k ≤ xs.length) (hn : ¬ (lo ≤ num xs i k ∧ num xs i k ≤ hi)) (c : Int × Int) : nm xs i k lo hi c = (3, (i : Int)) := by unfold nm; rw [if_neg (by omega), if_neg hn]
theorem nm_ok {xs : List Int} {i k : Nat} {lo hi : Int} (h : i + k ≤ xs.length) (h1 : lo ≤ num xs i k) (h2 : num xs i k ≤ hi) (c : Int × Int) : nm xs i k lo hi c = c := by unfold nm; rw [if_neg (by omega), if_pos ⟨h1, h2⟩]

/-- The letters and the number 1. -/
def dA (xs : List Int) (c : Int × Int) : Int × Int :=
  if xs.length < 4 then (1, xs.length) else if xs.take 4 = letters then (if xs.length < 5 then (1, xs.length) else if xs.getD 4 0 = 1 then c else (2, 4)) else (2, 0)
/-- A function's place; is it wrong? -/
def fa (xs : List Int) (a q : Nat) : Int := num xs (a + 2 * q) 2
def fBad (xs : List Int) (a q : Nat) : Bool := decide (xs.length < a + 2 * q + 2) || (if q = 0 then decide (fa xs a 0 ≠ 0) else decide (fa xs a q ≤ fa xs a (q - 1)))
def fFirst (xs : List Int) (a f : Nat) : Nat := (List.range f).findIdx (fBad xs a)
/-- The functions, from a on. -/
def dF (xs : List Int) (a f : Nat) (c : Int × Int) : Int × Int :=
  if fFirst xs a f < f then (if xs.length < a + 2 * fFirst xs a f + 2 then (1, xs.length) else (3, ((a + 2 * fFirst xs a f : Nat) : Int))) else c
/-- The instructions, from s on. -/
def ins (ys : List Int) : I5 := ⟨ys.getD 0 0, ys.getD 1 0, ys.getD 2 0, ys.getD 3 0, Cd.val ys⟩
def insAt (xs : List Int) (s j : Nat) : I5 := ins (xs.drop (s + 12 * j))
def iBad (xs : List Int) (s j : Nat) : Bool := decide (xs.length < s + 12 * j + 12) || decide (bad5 (insAt xs s j) ≠ -1)
def iFirst (xs : List Int) (s k : Nat) : Nat := (List.range k).findIdx (iBad xs s)
def dI (xs : List Int) (s k : Nat) (c : Int × Int) : Int × Int :=
  if iFirst xs s k < k then (if xs.length < s + 12 * iFirst xs s k + 12 then (1, xs.length) else (Cd.er (bad5 (insAt xs s (iFirst xs s k))), ((s + 12 * iFirst xs s k : Nat) : Int) + Cd.pl (bad5 (insAt xs s (iFirst xs s k))))) else c

/-- How many bytes of data, functions, instructions; where the parts begin. -/
def nd (xs : List Int) : Nat := (num xs 8 1).toNat
def nf (xs : List Int) : Nat := (num xs (9 + nd xs) 1).toNat
def fAt (xs : List Int) : Nat := 9 + nd xs + 1
def cAt (xs : List Int) : Nat := fAt xs + 2 * nf xs
def sAt (xs : List Int) : Nat := cAt xs + 2
def nk (xs : List Int) : Nat := (num xs (cAt xs) 2).toNat
def pic (xs : List Int) : Pic := ⟨num xs 5 1, num xs 6 1, num xs 7 1, (xs.drop 9).take (nd xs), (List.range (nf xs)).map (fa xs (fAt xs)), (List.range (nk xs)).map (insAt xs (sAt xs))⟩
/-- Bytes that are left; whether it flows. -/
def dG (xs : List Int) : Int × Int :=
  if sAt xs + 12 * nk xs < xs.length then (6, ((sAt xs + 12 * nk xs : Nat) : Int)) else if flB (pic xs).fs (pic xs).cs = true then (7, (sAt xs : Int) + 12 * flI (pic xs).fs (pic xs).cs) else (0, 0)
def t12 (xs : List Int) : Int × Int := dI xs (sAt xs) (nk xs) (dG xs)
def t11 (xs : List Int) : Int × Int := nm xs (cAt xs) 2 (fa xs (fAt xs) (nf xs - 1) + 1) 256 (t12 xs)
def t10 (xs : List Int) : Int × Int := nm xs (9 + nd xs) 1 1 16 (dF xs (9 + nd xs + 1) (nf xs) (t11 xs))
def t9 (xs : List Int) : Int × Int := if xs.length < 9 + nd xs then (1, xs.length) else t10 xs
def t8 (xs : List Int) : Int × Int := nm xs 8 1 0 (num xs 5 1) (t9 xs)
def t7 (xs : List Int) : Int × Int := nm xs 7 1 0 16 (t8 xs)
def t6 (xs : List Int) : Int × Int := nm xs 6 1 0 16 (t7 xs)
def t5 (xs : List Int) : Int × Int := nm xs 5 1 0 64 (t6 xs)
def dE (xs : List Int) : Int × Int := dA xs (t5 xs)

theorem num_bd {xs : List Int} (h : Cd.isB xs) (i k : Nat) : 0 ≤ num xs i k ∧ num xs i k ≤ 65535 := by
  have h0 := h i
  have h1 := h (i + 1)
  unfold num
  split <;> omega
theorem num1 (xs : List Int) (i : Nat) : num xs i 1 = xs.getD i 0 := rfl
theorem num1_bd {xs : List Int} (h : Cd.isB xs) (i : Nat) : 0 ≤ num xs i 1 ∧ num xs i 1 ≤ 255 := h i
theorem dF_at {xs : List Int} {a f q : Nat} (hq : q < f) (hb : fBad xs a q = true) (hn : ∀ j, j < q → fBad xs a j = false) (c : Int × Int) :
    dF xs a f c = if xs.length < a + 2 * q + 2 then (1, (xs.length : Int)) else (3, ((a + 2 * q : Nat) : Int)) := by
  have : fFirst xs a f = q := first_at hq hb hn
  unfold dF
  rw [this, if_pos hq]
theorem dF_ok {xs : List Int} {a f : Nat} (hn : ∀ j, j < f → fBad xs a j = false) (c : Int × Int) : dF xs a f c = c := by
  have : fFirst xs a f = f := first_none hn
  unfold dF
  rw [this, if_neg (Nat.lt_irrefl _)]
theorem dI_at {xs : List Int} {s k q : Nat} (hq : q < k) (hb : iBad xs s q = true) (hn : ∀ j, j < q → iBad xs s j = false) (c : Int × Int) :
    dI xs s k c = if xs.length < s + 12 * q + 12 then (1, (xs.length : Int)) else (Cd.er (bad5 (insAt xs s q)), ((s + 12 * q : Nat) : Int) + Cd.pl (bad5 (insAt xs s q))) := by
  have : iFirst xs s k = q := first_at hq hb hn
  unfold dI
  rw [this, if_pos hq]
theorem dI_ok {xs : List Int} {s k : Nat} (hn : ∀ j, j < k → iBad xs s j = false) (c : Int × Int) : dI xs s k c = c := by
  have : iFirst xs s k = k := first_none hn
  unfold dI
  rw [this, if_neg (Nat.lt_irrefl _)]
end Im
end Go.Proofs.YtjadiijjahjjoaaDoor
