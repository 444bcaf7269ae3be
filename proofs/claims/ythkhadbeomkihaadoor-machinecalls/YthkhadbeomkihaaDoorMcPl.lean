/-
  Layer 5 as plain functions: states, what an instruction does, steps, runs.
-/
import Derived.Test.YthkhadbeomkihaaDoorImW6
import Derived.Test.YthkhadbeomkihaaDoorWdPlain
namespace Go.Proofs.YthkhadbeomkihaaDoor
set_option maxRecDepth 100000
namespace Mc

structure St where
  pl : Int
  rg : List Int
  mm : List Int
  op : List Int
def rv (s : St) (k : Int) : Int := s.rg.getD k.toNat 0
/-- The address that an instruction names. -/
def ad (s : St) (i : Im.I5) : Int := (rv s i.b + i.m) % 18446744073709551616
/-- A number, its lowest byte first; and a number's bytes. -/
def le : List Int → Int
  | [] => 0
  | b :: r => b + 256 * le r
def bys : Nat → Int → List Int
  | 0, _ => []
  | n + 1, x => x % 256 :: bys n (x / 256)
def there (s : St) (i : Im.I5) : Bool := decide (ad s i + i.c ≤ s.mm.length)
def lod (s : St) (i : Im.I5) : Int := le ((s.mm.drop (ad s i).toNat).take i.c.toNat)
def sav (mm : List Int) (k n : Nat) (x : Int) : List Int := mm.take k ++ bys n x ++ mm.drop (k + n)
def wr (s : St) (i : Im.I5) (x : Int) : St := { s with rg := s.rg.set i.a.toNat x }

/-- What an instruction does: the state, the place that is next, how it ends the run. -/
def act (p : Im.Pic) (inp : List Int) (i : Im.I5) (s : St) (nx : Int) : St × Int × Int :=
  if i.op = 0 then (s, nx, 1)
  else if i.op = 1 then (wr s i i.m, nx, 0)
  else if i.op = 2 then (wr s i (rv s i.b), nx, 0)
  else if i.op = 17 then (if there s i = true then (wr s i (lod s i), nx, 0) else (s, nx, 2))
  else if i.op = 18 then (if there s i = true then ({ s with mm := sav s.mm (ad s i).toNat i.c.toNat (rv s i.a) }, nx, 0) else (s, nx, 2))
  else if i.op = 19 then (if ad s i < inp.length then (wr s i (inp.getD (ad s i).toNat 0), nx, 0) else (s, nx, 5))
  else if i.op = 20 then (wr s i inp.length, nx, 0)
  else if i.op = 21 then (s, i.m, 0)
  else if i.op = 22 then (if rv s i.a = 0 then (s, nx, 0) else (s, i.m, 0))
  else if i.op = 23 then (if (s.op.length : Int) < p.stk then ({ s with op := s.op ++ [nx] }, p.fs.getD i.m.toNat 0, 0) else (s, nx, 4))
  else if i.op = 24 then (if s.op = [] then (s, nx, 1) else ({ s with op := s.op.dropLast }, s.op.getLastD 0, 0))
  else if i.op = 25 then (s, nx, 6)
  else if (i.op = 6 ∨ i.op = 7) ∧ rv s i.c = 0 then (s, nx, 3)
  else (wr s i (Wd.app (i.op + 5) 64 (rv s i.b) (rv s i.c)), nx, 0)

def ins (p : Im.Pic) (s : St) : Im.I5 := p.cs.getD s.pl.toNat Im.z5
def step (p : Im.Pic) (inp : List Int) (s : St) : St × Int :=
  if (act p inp (ins p s) s (s.pl + 1)).2.2 = 0 then ({ (act p inp (ins p s) s (s.pl + 1)).1 with pl := (act p inp (ins p s) s (s.pl + 1)).2.1 }, 0)
  else (s, (act p inp (ins p s) s (s.pl + 1)).2.2)
def start (p : Im.Pic) : St := ⟨0, List.replicate 8 0, p.ds ++ List.replicate (p.mem.toNat - p.ds.length) 0, []⟩
/-- So many steps from a state on: the path (behind what it was), the state, how it ended. -/
def go (p : Im.Pic) (inp : List Int) : Nat → St → List Int → List Int × St × Int
  | 0, s, path => (path, s, 0)
  | n + 1, s, path => if (step p inp s).2 = 0 then go p inp n (step p inp s).1 (path ++ [(step p inp s).1.pl]) else (path, s, (step p inp s).2)
def most (steps : Int) : Nat := (min steps 4096).toNat
def run (p : Im.Pic) (inp : List Int) (steps : Int) : List Int × St × Int := go p inp (most steps) (start p) [0]

/-! ### What states have -/
/-- An image that is right. -/
def R (p : Im.Pic) : Prop := Im.chk p = 0
theorem R.cnt {p : Im.Pic} (h : R p) : Im.Cnt p := by
  unfold R Im.chk at h
  split at h
  · assumption
  · cases h
theorem R.bad {p : Im.Pic} (h : R p) : ∀ j, j < p.cs.length → Im.bad5 (p.cs.getD j Im.z5) = -1 := by
  have hc := h.cnt
  unfold R Im.chk at h
  rw [if_pos hc] at h
  split at h
  · rename_i h1; exact Im.firstE_zero _ h1
  · rename_i h1; exact absurd h h1
theorem R.ok {p : Im.Pic} (h : R p) : ∀ j, j < p.cs.length → Im.okB p.fs p.cs j = true := by
  have hc := h.cnt
  unfold R Im.chk at h
  rw [if_pos hc] at h
  split at h
  · split at h
    · cases h
    · rename_i h1; exact Im.stray_ok h1
  · rename_i h1; exact absurd h h1

structure Ok (p : Im.Pic) (s : St) : Prop where
  p0 : 0 ≤ s.pl
  p1 : s.pl < p.cs.length
  rl : s.rg.length = 8
  rr : ∀ x ∈ s.rg, 0 ≤ x ∧ x < 18446744073709551616
  mb : Cd.isB s.mm
  ml : (s.mm.length : Int) = p.mem
  ol : (s.op.length : Int) ≤ p.stk
  oo : ∀ x ∈ s.op, 0 ≤ x ∧ x < p.cs.length
theorem rv_rng {s : St} (h : ∀ x ∈ s.rg, 0 ≤ x ∧ x < 18446744073709551616) (k : Int) : 0 ≤ rv s k ∧ rv s k < 18446744073709551616 := by
  unfold rv
  rw [List.getD_eq_getElem?_getD]
  rcases Nat.lt_or_ge k.toNat s.rg.length with h1 | h1
  · rw [List.getElem?_eq_getElem h1]; exact h _ (List.getElem_mem h1)
  · rw [List.getElem?_eq_none h1]; exact ⟨by decide, by decide⟩
theorem le_rng : ∀ (l : List Int), (∀ x ∈ l, 0 ≤ x ∧ x ≤ 255) → 0 ≤ le l ∧ le l < 256 ^ l.length
  | [], _ => ⟨Int.le_refl _, by simp [le]⟩
  | b :: r, h => by
    have h1 := h b (by simp)
    obtain ⟨h2, h3⟩ := le_rng r fun x hx => h x (by simp [hx])
    simp only [le, List.length_cons, Int.pow_succ]
    constructor
    · omega
    · omega
theorem bys_len : ∀ (n : Nat) (x : Int), (bys n x).length = n
  | 0, _ => rfl
  | n + 1, x => by simp [bys, bys_len n]
theorem bys_rng : ∀ (n : Nat) (x : Int), ∀ y ∈ bys n x, 0 ≤ y ∧ y ≤ 255
  | 0, _, y, h => by simp [bys] at h
  | n + 1, x, y, h => by
    rcases List.mem_cons.1 h with rfl | h
    · omega
    · exact bys_rng n _ y h
theorem sav_len {mm : List Int} {k n : Nat} {x : Int} (h : k + n ≤ mm.length) : (sav mm k n x).length = mm.length := by
  simp [sav, bys_len]; omega
theorem isB_mem {l : List Int} (h : Cd.isB l) {x : Int} (hx : x ∈ l) : 0 ≤ x ∧ x ≤ 255 := Im.mem_isB h hx
theorem sav_isB {mm : List Int} {k n : Nat} {x : Int} (h : Cd.isB mm) : Cd.isB (sav mm k n x) := by
  refine isB_of fun y hy => ?_
  simp only [sav, List.mem_append] at hy
  rcases hy with (hy | hy) | hy
  · exact isB_mem h (List.mem_of_mem_take hy)
  · exact bys_rng _ _ _ hy
  · exact isB_mem h (List.mem_of_mem_drop hy)
theorem set_mem {l : List Int} {k : Nat} {v x : Int} (h : x ∈ l.set k v) : x ∈ l ∨ x = v := List.mem_or_eq_of_mem_set h
end Mc
end Go.Proofs.YthkhadbeomkihaaDoor
