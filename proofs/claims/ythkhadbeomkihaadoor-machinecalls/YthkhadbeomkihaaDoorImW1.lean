/-
  Slices of integers and of instructions in memory; contracts of image's small functions: within, leadsRight, reach, placesRight, countsRight.
-/
import Derived.Test.YthkhadbeomkihaaDoorImPl
namespace Go.Proofs.YthkhadbeomkihaaDoor
set_option maxRecDepth 100000
open Go.RowKit

/-- A slice of integers, and one of instructions, five cells each. -/
structure InSl (w : World) (A : Option Addr) (len cap : Nat) (xs : List Int) : Prop where
  hlen : xs.length = len
  hle : len ≤ cap
  hcap : cap ≤ maxLen
  hnone : A = none → len = 0
  mem : 0 < len → ∃ b o, A = some ⟨b, o, none⟩ ∧ b < w.heap.size ∧ ∀ i, i < len → w.cell? ⟨b, o + i, none⟩ = some (.int .i64 (xs.getD i 0))
def InsAt (w : World) (b o : Nat) (i : Im.I5) : Prop := w.cell? ⟨b, o, none⟩ = some (.int .i64 i.op) ∧ w.cell? ⟨b, o + 1, none⟩ = some (.int .i64 i.a) ∧ w.cell? ⟨b, o + 2, none⟩ = some (.int .i64 i.b) ∧ w.cell? ⟨b, o + 3, none⟩ = some (.int .i64 i.c) ∧ w.cell? ⟨b, o + 4, none⟩ = some (.int .u64 i.m)
structure CoSl (w : World) (A : Option Addr) (len cap : Nat) (cs : List Im.I5) : Prop where
  hlen : cs.length = len
  hle : len ≤ cap
  hcap : cap ≤ maxLen
  hnone : A = none → len = 0
  rng : ∀ i, 0 ≤ (cs.getD i Im.z5).m ∧ (cs.getD i Im.z5).m < 18446744073709551616
  mem : 0 < len → ∃ b o, A = some ⟨b, o, none⟩ ∧ b < w.heap.size ∧ ∀ i, i < len → InsAt w b (o + i * 5) (cs.getD i Im.z5)
theorem InSl.below {w w' : World} {A : Option Addr} {len cap : Nat} {xs : List Int} (h : InSl w A len cap xs) (hb : Below w.heap.size w w') : InSl w' A len cap xs :=
  ⟨h.hlen, h.hle, h.hcap, h.hnone, fun h0 => by
    obtain ⟨b, o, e, hlt, hx⟩ := h.mem h0
    exact ⟨b, o, e, Nat.lt_of_lt_of_le hlt hb.size, fun i hi => (hb.cell (p := ⟨b, o + i, none⟩) hlt).trans (hx i hi)⟩⟩
theorem InsAt.keep {w w' : World} {b o : Nat} {i : Im.I5} (h : InsAt w b o i) (hk : ∀ o, w'.cell? ⟨b, o, none⟩ = w.cell? ⟨b, o, none⟩) : InsAt w' b o i :=
  ⟨(hk _).trans h.1, (hk _).trans h.2.1, (hk _).trans h.2.2.1, (hk _).trans h.2.2.2.1, (hk _).trans h.2.2.2.2⟩
theorem CoSl.below {w w' : World} {A : Option Addr} {len cap : Nat} {cs : List Im.I5} (h : CoSl w A len cap cs) (hb : Below w.heap.size w w') : CoSl w' A len cap cs :=
  ⟨h.hlen, h.hle, h.hcap, h.hnone, h.rng, fun h0 => by
    obtain ⟨b, o, e, hlt, hx⟩ := h.mem h0
    exact ⟨b, o, e, Nat.lt_of_lt_of_le hlt hb.size, fun i hi => (hx i hi).keep fun o => hb.cell (p := ⟨b, o, none⟩) hlt⟩⟩
/-- An image in memory. -/
structure ImAt (w : World) (Ad : Option Addr) (ld cd : Nat) (Af : Option Addr) (lf cf : Nat) (Ac : Option Addr) (lc cc : Nat) (p : Im.Pic) : Prop where
  d : BySl w Ad ld cd p.ds
  f : InSl w Af lf cf p.fs
  c : CoSl w Ac lc cc p.cs
theorem ImAt.below {w w' : World} {Ad : Option Addr} {ld cd : Nat} {Af : Option Addr} {lf cf : Nat} {Ac : Option Addr} {lc cc : Nat} {p : Im.Pic} (h : ImAt w Ad ld cd Af lf cf Ac lc cc p) (hb : Below w.heap.size w w') : ImAt w' Ad ld cd Af lf cf Ac lc cc p :=
  ⟨h.d.below hb, h.f.below hb, h.c.below hb⟩
theorem Below.box (w : World) (o : Obj) : Below w.heap.size w (w.alloc o) := (Below.refl _ _).alloc (Nat.le_refl _) _

set_option maxHeartbeats 400000 in
theorem within_any (x lo hi : Int) (w : World) :
    Calls Tryd.prog 62 #[.int .i64 x, .int .i64 lo, .int .i64 hi] w fun e w' => e = .returned (.bool (decide (lo ≤ x) && decide (x ≤ hi))) ∧ w = w' := by
  go_enter Tryd.func62, Tryd.ntmps62
  go_wp2
  all_goals
    go_ret
    refine ⟨ret_bool ?_, rfl⟩
    simp_all
    try (intro h; omega)

set_option maxHeartbeats 400000 in
theorem leads_any (op a b c m fr to : Int) (nf : Nat) (w : World) (h0 : 0 ≤ fr) (h1 : fr < 18446744073709551616) (h2 : 0 ≤ to) (h3 : to < 18446744073709551616) (h4 : nf < 18446744073709551616) :
    Calls Tryd.prog 66 #[.agg #[.int .i64 op, .int .i64 a, .int .i64 b, .int .i64 c, .int .u64 m], .int .i64 fr, .int .i64 to, .int .i64 nf] w fun e w' => e = .returned (.bool (Im.leads ⟨op, a, b, c, m⟩ fr to nf)) ∧ Below w.heap.size w w' := by
  have e1 : IntKind.u64.wrap fr = fr := by rw [IntKind.wrap_u64]; omega
  have e2 : IntKind.u64.wrap to = to := by rw [IntKind.wrap_u64]; omega
  have e3 : IntKind.u64.wrap (nf : Int) = nf := by rw [IntKind.wrap_u64]; omega
  go_enter Tryd.func66, Tryd.ntmps66
  go_wp2
  all_goals
    go_ret
    refine ⟨ret_bool ?_, Below.box _ _⟩
    simp_all [Im.leads]
    try (intro h; omega)

set_option maxHeartbeats 400000 in
theorem reach_any (mem stk inp : Int) (Ad : Option Addr) (ld cd : Nat) (Af : Option Addr) (lf cf : Nat) (Ac : Option Addr) (lc cc : Nat) (fs : List Int) (n : Nat) (w : World) (hf : InSl w Af lf cf fs) (hn : n < lf) (hc : lc ≤ maxLen) :
    Calls Tryd.prog 41 #[.agg #[.int .i64 mem, .int .i64 stk, .int .i64 inp, .slice Ad ld cd, .slice Af lf cf, .slice Ac lc cc], .int .i64 n] w fun e w' => e = .returned (.tuple #[.int .i64 (fs.getD n 0), .int .i64 (Im.till fs lc n)]) ∧ Below w.heap.size w w' := by
  obtain ⟨b, o, rfl, hb, hx⟩ := hf.mem (by omega)
  have hl := hf.hlen
  have hcap := hf.hcap
  have hle := hf.hle
  have c0 := hx n hn
  have c1 : n + 1 < lf → w.cell? ⟨b, o + (n + 1), none⟩ = some (.int .i64 (fs.getD (n + 1) 0)) := fun h => hx (n + 1) h
  have hne : b ≠ w.heap.size := by omega
  unfold maxLen at hcap hc
  clear hx hf
  by_cases h1 : n + 1 < lf
  · have c1 := c1 h1
    have h1' : (n : Int) + 1 < lf := by omega
    have ht : Im.till fs lc n = fs.getD (n + 1) 0 := Im.till_in (by omega)
    rw [ht]
    clear ht hl
    generalize fs.getD n 0 = z0 at *
    generalize fs.getD (n + 1) 0 = z1 at *
    go_enter Tryd.func41, Tryd.ntmps41
    go_wp2
    go_quiet (fail)
    go_wp2
    go_ret2
    exact ⟨rfl, below_drewN (Below.box _ _) nq⟩
  · have h1' : ¬ (n : Int) + 1 < lf := by omega
    have ht : Im.till fs lc n = lc := Im.till_last (by omega)
    rw [ht]
    clear ht hl c1
    generalize fs.getD n 0 = z0 at *
    go_enter Tryd.func41, Tryd.ntmps41
    go_wp2
    go_quiet (fail)
    go_wp2
    go_ret2
    exact ⟨rfl, below_drewN (Below.box _ _) nq⟩
end Go.Proofs.YthkhadbeomkihaaDoor
