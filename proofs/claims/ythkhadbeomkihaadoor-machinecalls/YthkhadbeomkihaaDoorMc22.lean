/-
  MachineBlind: what doesn't look at the input doesn't hang on it; the law's walk.
-/
import Derived.Test.YthkhadbeomkihaaDoorMc21
import Derived.Test.YthkhadbeomkihaaDoorMc20
namespace Go.Proofs.YthkhadbeomkihaaDoor
set_option maxRecDepth 100000
open Go.RowKit

namespace Mc
def opAt (p : Im.Pic) (q : Int) : Int := (p.cs.getD q.toNat Im.z5).op
theorem act_blind {p : Im.Pic} {xs ys : List Int} {i : Im.I5} {s : St} {nx : Int} (h1 : i.op ≠ 19) (h2 : i.op ≠ 20) : act p xs i s nx = act p ys i s nx := by
  unfold act
  rw [if_neg h1, if_neg h1, if_neg h2, if_neg h2]
theorem step_blind {p : Im.Pic} {xs ys : List Int} {s : St} (h1 : opAt p s.pl ≠ 19) (h2 : opAt p s.pl ≠ 20) : step p xs s = step p ys s := by
  unfold step
  rw [act_blind (ys := ys) (show (ins p s).op ≠ 19 from h1) (show (ins p s).op ≠ 20 from h2)]
theorem go_blind {p : Im.Pic} {xs ys : List Int} : ∀ (n : Nat) (s : St) (path : List Int), (∀ q ∈ (go p xs n s path).1, opAt p q ≠ 19 ∧ opAt p q ≠ 20) → s.pl ∈ path → go p xs n s path = go p ys n s path := by
  intro n
  induction n with
  | zero => intro s path _ _; rfl
  | succ n ih =>
    intro s path h hm
    obtain ⟨l, hl, _⟩ := go_path (p := p) (xs := xs) (n + 1) s path
    have h0 := h s.pl (by rw [hl]; exact List.mem_append_left _ hm)
    have hs := step_blind (xs := xs) (ys := ys) h0.1 h0.2
    rw [go] at h ⊢
    rw [go, ← hs]
    split
    · rename_i he
      rw [if_pos he] at h
      exact ih _ _ h (by simp)
    · rfl
theorem go_in {p : Im.Pic} {xs : List Int} (hR : R p) (hW : Wc p) (hx : Cd.isB xs) (hl : xs.length < 1000) : ∀ (n : Nat) (s : St) (path : List Int), Ok p s → (∀ q ∈ path, 0 ≤ q ∧ q < p.cs.length) → ∀ q ∈ (go p xs n s path).1, 0 ≤ q ∧ q < p.cs.length := by
  intro n
  induction n with
  | zero => intro s path _ h; exact h
  | succ n ih =>
    intro s path hs h
    rw [go]
    split
    · have h1 := hs.step hR hW hx hl
      refine ih _ _ h1 fun q hq => ?_
      rcases List.mem_append.1 hq with hq | hq
      · exact h q hq
      · rw [List.mem_singleton.1 hq]; exact ⟨h1.p0, h1.p1⟩
    · exact h
theorem answer_er {p : Im.Pic} {xs : List Int} (steps : Int) (h : (xs.length : Int) ≤ p.inp) : (answer p xs steps).2.2.2.2 = Im.chk p := by
  unfold answer
  split
  · rfl
  · rename_i h0
    rw [if_neg (by omega)]
    exact (by simpa using h0 : Im.chk p = 0).symm
theorem answer_in {p : Im.Pic} {xs : List Int} (steps : Int) (hW : Wc p) (hx : Cd.isB xs) (hd : Cd.isB p.ds) : ∀ q ∈ (answer p xs steps).1, 0 ≤ q ∧ q < p.cs.length := by
  unfold answer
  split
  · intro q hq; simp at hq
  · rename_i h0
    split
    · intro q hq; simp at hq
    · rename_i h1
      have hR : R p := by unfold R; simpa using h0
      have hC := hR.cnt
      have h2 := mem0_ok hR hd
      exact go_in hR hW hx (by have := hC.2.2.1; omega) _ _ _ h2 fun q hq => by rw [List.mem_singleton.1 hq]; exact ⟨h2.p0, h2.p1⟩
theorem answer_blind {p : Im.Pic} {xs ys : List Int} (steps : Int) (h1 : (xs.length : Int) ≤ p.inp) (h2 : (ys.length : Int) ≤ p.inp) (h : ∀ q ∈ (answer p xs steps).1, opAt p q ≠ 19 ∧ opAt p q ≠ 20) : answer p xs steps = answer p ys steps := by
  unfold answer at *
  split
  · rfl
  · rename_i h0
    rw [if_neg h0, if_neg (by omega)] at h
    rw [if_neg (by omega), if_neg (by omega)]
    have := go_blind (p := p) (xs := xs) (ys := ys) (most steps) (start p) [0] h (by simp [start])
    unfold run
    rw [this]
end Mc
theorem trB_self (a : List Int × Int × List Int × List Int) : trB a a = true := by simp [trB, rgB]
theorem trB_of {a b : List Int × Int × List Int × List Int × Int} (h : a = b) : trB (a.1, a.2.1, a.2.2.1, a.2.2.2.1) (b.1, b.2.1, b.2.2.1, b.2.2.2.1) = true := by subst h; exact trB_self _

set_option maxRecDepth 20000 in
set_option maxHeartbeats 12800000 in
theorem blind_walk (mem stk inp : Int) (Ad : Option Addr) (ld cd : Nat) (Af : Option Addr) (lf cf : Nat) (Ac : Option Addr) (lc cc : Nat) (P : Im.Pic) (Ai : Option Addr) (li ci : Nat) (xs : List Int) (Bi : Option Addr) (lj cj : Nat) (ys : List Int) (steps : Int) (w : World) (ho : Ops w) (hi : ImAt w Ad ld cd Af lf cf Ac lc cc P) (e0 : P.mem = mem) (e1 : P.stk = stk) (e2 : P.inp = inp) (hx : BySl w Ai li ci xs) (hy : BySl w Bi lj cj ys) :
    Calls Tryd.prog 9 #[.agg #[.int .i64 mem, .int .i64 stk, .int .i64 inp, .slice Ad ld cd, .slice Af lf cf, .slice Ac lc cc], .slice Ai li ci, .slice Bi lj cj, .int .i64 steps] w fun e w' => e = .returned (.bool true) ∧ Below w.heap.size w w' := by
  have hp := ho.pos
  have HA : HdAt w ⟨mem, stk, inp, Ad, ld, cd, Af, lf, cf, Ac, lc, cc, Ai, li, ci, P, xs⟩ := ⟨hi, e0, e1, e2, hx⟩
  have HB : HdAt w ⟨mem, stk, inp, Ad, ld, cd, Af, lf, cf, Ac, lc, cc, Bi, lj, cj, P, ys⟩ := ⟨hi, e0, e1, e2, hy⟩
  have hld := Nat.le_trans hi.d.hle hi.d.hcap
  have hlf := Nat.le_trans hi.f.hle hi.f.hcap
  have hlc := Nat.le_trans hi.c.hle hi.c.hcap
  have hli := Nat.le_trans hx.hle hx.hcap
  have hlj := Nat.le_trans hy.hle hy.hcap
  have hgr := fun W => great_any mem stk inp Ad ld cd Af lf cf Ac lc cc Ai li ci steps W hld hlf hlc hli
  unfold maxLen at hli hlj hlc
  have haw : ∀ W, Below w.heap.size w W → Calls Tryd.prog 10 #[] W fun e w' => e = .returned (.bool true) ∧ Below W.heap.size W w' := fun W hW => mc_awake W (ho.below hW hp)
  have hr1 : ∀ W, Below w.heap.size w W → Calls Tryd.prog 12 #[.agg #[.int .i64 mem, .int .i64 stk, .int .i64 inp, .slice Ad ld cd, .slice Af lf cf, .slice Ac lc cc], .slice Ai li ci, .int .i64 steps] W (RunA (Mc.answer P xs steps) W) := fun W hW => run_any ⟨mem, stk, inp, Ad, ld, cd, Af, lf, cf, Ac, lc, cc, Ai, li, ci, P, xs⟩ steps W (ho.below hW hp) (HA.below hW)
  have hr2 : ∀ W, Below w.heap.size w W → Calls Tryd.prog 12 #[.agg #[.int .i64 mem, .int .i64 stk, .int .i64 inp, .slice Ad ld cd, .slice Af lf cf, .slice Ac lc cc], .slice Bi lj cj, .int .i64 steps] W (RunA (Mc.answer P ys steps) W) := fun W hW => run_any ⟨mem, stk, inp, Ad, ld, cd, Af, lf, cf, Ac, lc, cc, Bi, lj, cj, P, ys⟩ steps W (ho.below hW hp) (HB.below hW)
  have hrng := Mc.answer_in (p := P) (xs := xs) steps hi.c.rng hx.isB hi.d.isB
  have hxl := hx.hlen
  have hyl := hy.hlen
  have hcl := hi.c.hlen
  have hER : (li : Int) ≤ inp → (lj : Int) ≤ inp → (Mc.answer P xs steps).2.2.2.2 = (Mc.answer P ys steps).2.2.2.2 := fun h1 h2 => by
    rw [Mc.answer_er steps (by rw [hxl, e2]; exact h1), Mc.answer_er steps (by rw [hyl, e2]; exact h2)]
  have hBL : (li : Int) ≤ inp → (lj : Int) ≤ inp → (∀ q ∈ (Mc.answer P xs steps).1, Mc.opAt P q ≠ 19 ∧ Mc.opAt P q ≠ 20) → trB ((Mc.answer P xs steps).1, (Mc.answer P xs steps).2.1, (Mc.answer P xs steps).2.2.1, (Mc.answer P xs steps).2.2.2.1) ((Mc.answer P ys steps).1, (Mc.answer P ys steps).2.1, (Mc.answer P ys steps).2.2.1, (Mc.answer P ys steps).2.2.2.1) = true := fun h1 h2 h3 =>
    trB_of (Mc.answer_blind steps (by rw [hxl, e2]; exact h1) (by rw [hyl, e2]; exact h2) h3)
  generalize Mc.answer P xs steps = a at *
  generalize Mc.answer P ys steps = b at *
  obtain ⟨A1, en1, rg1, mm1, er1⟩ := a
  obtain ⟨A2, en2, rg2, mm2, er2⟩ := b
  have hST : ∀ (p1 : Option Addr) (c1 : Nat) (m1 : Option Addr) (d1 : Nat) (p2 : Option Addr) (c2 : Nat) (m2 : Option Addr) (d2 : Nat) (W : World), InSl W p1 A1.length c1 A1 → InSl W p2 A2.length c2 A2 → BySl W m1 mm1.length d1 mm1 → BySl W m2 mm2.length d2 mm2 →
      Calls Tryd.prog 16 #[.agg (trC (.slice p1 A1.length c1) en1 rg1 (.slice m1 mm1.length d1)), .agg (trC (.slice p2 A2.length c2) en2 rg2 (.slice m2 mm2.length d2))] W fun e w' => e = .returned (.bool (trB (A1, en1, rg1, mm1) (A2, en2, rg2, mm2))) ∧ Below W.heap.size W w' := fun p1 c1 m1 d1 p2 c2 m2 d2 W h1 h2 h3 h4 => sameTrace_any p1 _ c1 en1 m1 _ d1 (A1, en1, rg1, mm1) p2 _ c2 en2 m2 _ d2 (A2, en2, rg2, mm2) W h1 h2 h3 h4 rfl rfl
  have hr1 : ∀ W, Below w.heap.size w W → Calls Tryd.prog 12 #[.agg #[.int .i64 mem, .int .i64 stk, .int .i64 inp, .slice Ad ld cd, .slice Af lf cf, .slice Ac lc cc], .slice Ai li ci, .int .i64 steps] W fun e w' => ∃ pA pcap mA mcap, e = .returned (.tuple #[.agg #[.slice pA A1.length pcap, .int .i64 en1, .int .u64 (rg1.getD 0 0), .int .u64 (rg1.getD 1 0), .int .u64 (rg1.getD 2 0), .int .u64 (rg1.getD 3 0), .int .u64 (rg1.getD 4 0), .int .u64 (rg1.getD 5 0), .int .u64 (rg1.getD 6 0), .int .u64 (rg1.getD 7 0), .slice mA mm1.length mcap], .int .i64 er1]) ∧ InSl w' pA A1.length pcap A1 ∧ BySl w' mA mm1.length mcap mm1 ∧ Below W.heap.size W w' := hr1
  have hr2 : ∀ W, Below w.heap.size w W → Calls Tryd.prog 12 #[.agg #[.int .i64 mem, .int .i64 stk, .int .i64 inp, .slice Ad ld cd, .slice Af lf cf, .slice Ac lc cc], .slice Bi lj cj, .int .i64 steps] W fun e w' => ∃ pA pcap mA mcap, e = .returned (.tuple #[.agg #[.slice pA A2.length pcap, .int .i64 en2, .int .u64 (rg2.getD 0 0), .int .u64 (rg2.getD 1 0), .int .u64 (rg2.getD 2 0), .int .u64 (rg2.getD 3 0), .int .u64 (rg2.getD 4 0), .int .u64 (rg2.getD 5 0), .int .u64 (rg2.getD 6 0), .int .u64 (rg2.getD 7 0), .slice mA mm2.length mcap], .int .i64 er2]) ∧ InSl w' pA A2.length pcap A2 ∧ BySl w' mA mm2.length mcap mm2 ∧ Below W.heap.size W w' := hr2
  simp only [trC] at hST
  simp only at hER hBL hrng
  generalize trB (A1, en1, rg1, mm1) (A2, en2, rg2, mm2) = tb at *
  generalize rg1.getD 0 0 = r0 at *
  generalize rg1.getD 1 0 = r1 at *
  generalize rg1.getD 2 0 = r2 at *
  generalize rg1.getD 3 0 = r3 at *
  generalize rg1.getD 4 0 = r4 at *
  generalize rg1.getD 5 0 = r5 at *
  generalize rg1.getD 6 0 = r6 at *
  generalize rg1.getD 7 0 = r7 at *
  generalize rg2.getD 0 0 = z0 at *
  generalize rg2.getD 1 0 = z1 at *
  generalize rg2.getD 2 0 = z2 at *
  generalize rg2.getD 3 0 = z3 at *
  generalize rg2.getD 4 0 = z4 at *
  generalize rg2.getD 5 0 = z5 at *
  generalize rg2.getD 6 0 = z6 at *
  generalize rg2.getD 7 0 = z7 at *
  have hil := hi.c
  generalize hn1 : A1.length = n1 at *
  generalize hn2 : A2.length = n2 at *
  generalize hl1 : mm1.length = l1 at *
  generalize hl2 : mm2.length = l2 at *
  have hq := hgr
  generalize greatB ld lf lc li steps = q at *
  have HGR := Lib.hid hq
  have HAW := Lib.hid haw
  have HR1 := Lib.hid hr1
  have HR2 := Lib.hid hr2
  have HST := Lib.hid hST
  have HER := Lib.hid hER
  have HBL := Lib.hid hBL
  have HRNG := Lib.hid hrng
  have HIC := Lib.hid hil
  have HN1 := Lib.hid hn1
  have HCL := Lib.hid hcl
  clear hq haw hr1 hr2 hST hER hBL hrng hil hn1 hn2 hl1 hl2 hgr hi hx hy HA HB e0 e1 e2 ho hxl hyl hcl
  go_enter Tryd.func9, Tryd.ntmps9
  go_wp2_with fail
  have hB0 := Below.box w (.cells #[.int .i64 mem, .int .i64 stk, .int .i64 inp, .slice Ad ld cd, .slice Af lf cf, .slice Ac lc cc] 26)
  have hX0 : (w.alloc (.cells #[.int .i64 mem, .int .i64 stk, .int .i64 inp, .slice Ad ld cd, .slice Af lf cf, .slice Ac lc cc] 26)).heap[w.heap.size]? = some (.cells #[.int .i64 mem, .int .i64 stk, .int .i64 inp, .slice Ad ld cd, .slice Af lf cf, .slice Ac lc cc] 26 (0, 0)) := heap_newM rfl
  have hz0 : w.heap.size < (w.alloc (.cells #[.int .i64 mem, .int .i64 stk, .int .i64 inp, .slice Ad ld cd, .slice Af lf cf, .slice Ac lc cc] 26)).heap.size := by simp
  generalize w.alloc (.cells #[.int .i64 mem, .int .i64 stk, .int .i64 inp, .slice Ad ld cd, .slice Af lf cf, .slice Ac lc cc] 26) = w0 at *
  refine (HAW.out _ hB0).mono ?_
  rintro e v ⟨rfl, hb⟩
  have HX1 := Lib.hid ((hb.block _ hz0).trans hX0)
  have HB1 := Lib.hid (hB0.trans (hb.mono hB0.size))
  have HZ1 := Lib.hid (Nat.lt_of_lt_of_le hz0 hb.size)
  clear hB0 hX0 hz0 hb
  have q0 := row_cell HX1.out 0
  have q1 := row_cell HX1.out 1
  have q2 := row_cell HX1.out 2
  have q3 := row_cell HX1.out 3
  have q4 := row_cell HX1.out 4
  have q5 := row_cell HX1.out 5
  simp at q0 q1 q2 q3 q4 q5
  go_wp2_with fail
  refine (HGR.out _).mono ?_
  rintro e v2 ⟨rfl, hb⟩
  have HX2 := Lib.hid ((hb.block _ HZ1.out).trans HX1.out)
  have HB2 := Lib.hid (HB1.out.trans (hb.mono HB1.out.size))
  have HZ2 := Lib.hid (Nat.lt_of_lt_of_le HZ1.out hb.size)
  clear hb
  clear q0 q1 q2 q3 q4 q5
  have q0 := row_cell HX2.out 0
  have q1 := row_cell HX2.out 1
  have q2 := row_cell HX2.out 2
  have q3 := row_cell HX2.out 3
  have q4 := row_cell HX2.out 4
  have q5 := row_cell HX2.out 5
  simp at q0 q1 q2 q3 q4 q5
  by_cases hq : q = true
  · subst hq
    go_wp2
    go_ret
    exact ⟨rfl, HB2.out⟩
  have hq : q = false := by simpa using hq
  subst hq
  by_cases hm : (40 : Int) < lj
  · go_wp2
    go_ret
    exact ⟨rfl, HB2.out⟩
  by_cases h1 : inp < li
  · go_wp2
    go_ret
    exact ⟨rfl, HB2.out⟩
  by_cases h2 : inp < lj
  · go_wp2
    go_ret
    exact ⟨rfl, HB2.out⟩
  have hER := HER.out (by omega) (by omega)
  subst hER
  have HBT := Lib.hid (HBL.out (by omega) (by omega))
  go_wp2_with fail
  refine (HR1.out _ HB2.out).mono ?_
  rintro e v3 ⟨p1, c1, m1, d1, rfl, hin1, hby1, hb⟩
  have HX3 := Lib.hid ((hb.block _ HZ2.out).trans HX2.out)
  have HB3 := Lib.hid (HB2.out.trans (hb.mono HB2.out.size))
  have HZ3 := Lib.hid (Nat.lt_of_lt_of_le HZ2.out hb.size)
  have HIN1 := Lib.hid hin1
  have HBY1 := Lib.hid hby1
  have hlt1 := Nat.le_trans hin1.hle hin1.hcap
  unfold maxLen at hlt1
  clear hb hin1 hby1
  clear q0 q1 q2 q3 q4 q5
  have q0 := row_cell HX3.out 0
  have q1 := row_cell HX3.out 1
  have q2 := row_cell HX3.out 2
  have q3 := row_cell HX3.out 3
  have q4 := row_cell HX3.out 4
  have q5 := row_cell HX3.out 5
  simp at q0 q1 q2 q3 q4 q5
  have hne : w.heap.size ≠ v3.heap.size := by have := HZ3.out; omega
  have hvs := HZ3.out
  go_wp2_with fail
  have hB4 : Below v3.heap.size v3 (v3.alloc (.cells #[.slice p1 n1 c1, .int .i64 en1, .int .u64 r0, .int .u64 r1, .int .u64 r2, .int .u64 r3, .int .u64 r4, .int .u64 r5, .int .u64 r6, .int .u64 r7, .slice m1 l1 d1] 32)) := Below.box _ _
  have hX4 : (v3.alloc (.cells #[.slice p1 n1 c1, .int .i64 en1, .int .u64 r0, .int .u64 r1, .int .u64 r2, .int .u64 r3, .int .u64 r4, .int .u64 r5, .int .u64 r6, .int .u64 r7, .slice m1 l1 d1] 32)).heap[v3.heap.size]? = some (.cells #[.slice p1 n1 c1, .int .i64 en1, .int .u64 r0, .int .u64 r1, .int .u64 r2, .int .u64 r3, .int .u64 r4, .int .u64 r5, .int .u64 r6, .int .u64 r7, .slice m1 l1 d1] 32 (0, 0)) := heap_newM rfl
  have hz4 : (v3.alloc (.cells #[.slice p1 n1 c1, .int .i64 en1, .int .u64 r0, .int .u64 r1, .int .u64 r2, .int .u64 r3, .int .u64 r4, .int .u64 r5, .int .u64 r6, .int .u64 r7, .slice m1 l1 d1] 32)).heap.size = v3.heap.size + 1 := by simp
  generalize v3.alloc (.cells #[.slice p1 n1 c1, .int .i64 en1, .int .u64 r0, .int .u64 r1, .int .u64 r2, .int .u64 r3, .int .u64 r4, .int .u64 r5, .int .u64 r6, .int .u64 r7, .slice m1 l1 d1] 32) = w4 at *
  refine (HR2.out _ (HB3.out.trans (hB4.mono HB3.out.size))).mono ?_
  rintro e v5 ⟨p2, c2, m2, d2, rfl, hin2, hby2, hb⟩
  have hB5 : Below v3.heap.size v3 v5 := hB4.trans (hb.mono hB4.size)
  have HX5 := Lib.hid ((hB5.block _ HZ3.out).trans HX3.out)
  have HT5 := Lib.hid ((hb.block _ (by omega)).trans hX4)
  have HB5 := Lib.hid (HB3.out.trans (hB5.mono HB3.out.size))
  have HZ5 := Lib.hid (show w.heap.size < v3.heap.size ∧ v3.heap.size < v5.heap.size from ⟨HZ3.out, by have := hb.size; omega⟩)
  have HI1 := Lib.hid (HIN1.out.below hB5)
  have HY1 := Lib.hid (HBY1.out.below hB5)
  have HIN2 := Lib.hid hin2
  have HBY2 := Lib.hid hby2
  clear hb hin2 hby2 hB4 hX4 hz4 hB5 hne hvs q0 q1 q2 q3 q4 q5
  by_cases he : er1 ≠ 0
  · have he' : (er1 != 0) = true := by simpa using he
    clear he
    go_wp2
    go_ret
    exact ⟨rfl, HB5.out.trans ((Below.box _ _).mono HB5.out.size)⟩
  have he : er1 = 0 := Decidable.not_not.1 he
  subst he
  go_wp2
  have hB6 := Below.box v5 (.cells #[.slice p2 n2 c2, .int .i64 en2, .int .u64 z0, .int .u64 z1, .int .u64 z2, .int .u64 z3, .int .u64 z4, .int .u64 z5, .int .u64 z6, .int .u64 z7, .slice m2 l2 d2] 32)
  have hX6 : (v5.alloc (.cells #[.slice p2 n2 c2, .int .i64 en2, .int .u64 z0, .int .u64 z1, .int .u64 z2, .int .u64 z3, .int .u64 z4, .int .u64 z5, .int .u64 z6, .int .u64 z7, .slice m2 l2 d2] 32)).heap[v5.heap.size]? = some (.cells #[.slice p2 n2 c2, .int .i64 en2, .int .u64 z0, .int .u64 z1, .int .u64 z2, .int .u64 z3, .int .u64 z4, .int .u64 z5, .int .u64 z6, .int .u64 z7, .slice m2 l2 d2] 32 (0, 0)) := heap_newM rfl
  have hz6 : (v5.alloc (.cells #[.slice p2 n2 c2, .int .i64 en2, .int .u64 z0, .int .u64 z1, .int .u64 z2, .int .u64 z3, .int .u64 z4, .int .u64 z5, .int .u64 z6, .int .u64 z7, .slice m2 l2 d2] 32)).heap.size = v5.heap.size + 1 := by simp
  generalize v5.alloc (.cells #[.slice p2 n2 c2, .int .i64 en2, .int .u64 z0, .int .u64 z1, .int .u64 z2, .int .u64 z3, .int .u64 z4, .int .u64 z5, .int .u64 z6, .int .u64 z7, .slice m2 l2 d2] 32) = w6 at *
  have HU := Lib.hid ((hB6.block _ (by have := HZ5.out; omega)).trans HX5.out)
  have HT1 := Lib.hid ((hB6.block _ HZ5.out.2).trans HT5.out)
  have HT2 := Lib.hid hX6
  have HB6 := Lib.hid (HB5.out.trans (hB6.mono HB5.out.size))
  have HZ6 := Lib.hid (show w.heap.size < w6.heap.size ∧ v3.heap.size < w6.heap.size ∧ v5.heap.size < w6.heap.size from ⟨by have := HZ5.out; omega, by have := HZ5.out; omega, by omega⟩)
  have HJ1 := Lib.hid (HI1.out.below hB6)
  have HK1 := Lib.hid (HY1.out.below hB6)
  have HJ2 := Lib.hid (HIN2.out.below hB6)
  have HK2 := Lib.hid (HBY2.out.below hB6)
  have HC6 := Lib.hid (HIC.out.below HB6.out)
  clear hB6 hX6 hz6
  go_loopw [13, 14] (fun i _ wr => ∃ k : Nat, k ≤ n1 ∧ i = .int .i64 k ∧ Below w6.heap.size w6 wr ∧ ∀ j, j < k → Mc.opAt P (A1.getD j 0) ≠ 19 ∧ Mc.opAt P (A1.getD j 0) ≠ 20) (fun i _ _ => n1 - (intOf i).toNat)
  case atStart => exact ⟨0, by omega, rfl, Below.refl _ _, fun j hj => absurd hj (by omega)⟩
  case round =>
    obtain ⟨k, hk, rfl, hbr, hall⟩ := hrel
    have b5 := cells_below hbr (row_cell HU.out 5) HZ6.out.1
    have t0 := cells_below hbr (row_cell HT1.out 0) HZ6.out.2.1
    simp at b5 t0
    have HR := Lib.hid hbr
    have HALL := Lib.hid hall
    clear hbr hall
    by_cases hkn : k < n1
    · have hki : (k : Int) < n1 := by omega
      obtain ⟨bp, op, rfl, hbp, hcp⟩ := (HJ1.out.below HR.out).mem (by omega)
      have ck := hcp k hkn
      have hkl : k < A1.length := by rw [HN1.out]; exact hkn
      have hrg := HRNG.out (A1.getD k 0) (by rw [List.getD_eq_getElem?_getD, List.getElem?_eq_getElem hkl]; exact List.getElem_mem hkl)
      obtain ⟨zn, hzn⟩ := Int.eq_ofNat_of_zero_le hrg.1
      rw [hzn] at ck hrg
      have hzl : zn < lc := by have := HCL.out; omega
      have hzi : (zn : Int) < lc := by omega
      obtain ⟨bc, oc, rfl, hbc, hcc⟩ := (HC6.out.below HR.out).mem (by omega)
      have cop := (hcc zn hzl).1
      obtain ⟨o, ho⟩ : ∃ o, Mc.opAt P (A1.getD k 0) = o := ⟨_, rfl⟩
      have hoo : (P.cs.getD zn Im.z5).op = o := by rw [← ho, hzn]; unfold Mc.opAt; simp
      rw [hoo] at cop
      have HO := Lib.hid ho
      clear hcp hcc hrg hzn hoo ho hkl
      by_cases h19 : o = 19
      · subst h19
        go_wp2
        go_quiet (fail)
        go_wp2
        go_ret
        exact ⟨rfl, HB6.out.trans ((below_drewN HR.out nq).mono HB6.out.size)⟩
      by_cases h20 : o = 20
      · subst h20
        go_wp2
        go_quiet (fail)
        go_wp2
        go_ret
        exact ⟨rfl, HB6.out.trans ((below_drewN HR.out nq).mono HB6.out.size)⟩
      have e19 : (o == 19) = false := by simpa using h19
      have e20 : (o == 20) = false := by simpa using h20
      have H19 := Lib.hid (And.intro h19 h20)
      clear h19 h20
      go_wp2
      go_quiet (fail)
      go_wp2
      go_roundw
      case rel =>
        refine ⟨k + 1, by omega, by go_num, below_drewN HR.out nq, fun j hj => ?_⟩
        rcases Nat.lt_succ_iff_lt_or_eq.1 hj with h | h
        · exact HALL.out j h
        · rw [h, HO.out]; exact H19.out
      case measure => simp [intOf]; omega
    · have hke : k = n1 := by omega
      have hki : ¬ (k : Int) < n1 := by omega
      have htb : tb = true := HBT.out fun q hq => by
        obtain ⟨j, hj, rfl⟩ := List.getElem_of_mem hq
        have := HALL.out j (by have := HN1.out; omega)
        rwa [List.getD_eq_getElem?_getD, List.getElem?_eq_getElem hj] at this
      subst htb
      have HKE := Lib.hid hke
      clear hke
      have x1_0 : wr.cell? ⟨v3.heap.size, 0, none⟩ = some (.slice p1 n1 c1) := cells_below HR.out (row_cell HT1.out 0) HZ6.out.2.1
      have x1_1 : wr.cell? ⟨v3.heap.size, 1, none⟩ = some (.int .i64 en1) := cells_below HR.out (row_cell HT1.out 1) HZ6.out.2.1
      have x1_2 : wr.cell? ⟨v3.heap.size, 2, none⟩ = some (.int .u64 r0) := cells_below HR.out (row_cell HT1.out 2) HZ6.out.2.1
      have x1_3 : wr.cell? ⟨v3.heap.size, 3, none⟩ = some (.int .u64 r1) := cells_below HR.out (row_cell HT1.out 3) HZ6.out.2.1
      have x1_4 : wr.cell? ⟨v3.heap.size, 4, none⟩ = some (.int .u64 r2) := cells_below HR.out (row_cell HT1.out 4) HZ6.out.2.1
      have x1_5 : wr.cell? ⟨v3.heap.size, 5, none⟩ = some (.int .u64 r3) := cells_below HR.out (row_cell HT1.out 5) HZ6.out.2.1
      have x1_6 : wr.cell? ⟨v3.heap.size, 6, none⟩ = some (.int .u64 r4) := cells_below HR.out (row_cell HT1.out 6) HZ6.out.2.1
      have x1_7 : wr.cell? ⟨v3.heap.size, 7, none⟩ = some (.int .u64 r5) := cells_below HR.out (row_cell HT1.out 7) HZ6.out.2.1
      have x1_8 : wr.cell? ⟨v3.heap.size, 8, none⟩ = some (.int .u64 r6) := cells_below HR.out (row_cell HT1.out 8) HZ6.out.2.1
      have x1_9 : wr.cell? ⟨v3.heap.size, 9, none⟩ = some (.int .u64 r7) := cells_below HR.out (row_cell HT1.out 9) HZ6.out.2.1
      have x1_10 : wr.cell? ⟨v3.heap.size, 10, none⟩ = some (.slice m1 l1 d1) := cells_below HR.out (row_cell HT1.out 10) HZ6.out.2.1
      have x2_0 : wr.cell? ⟨v5.heap.size, 0, none⟩ = some (.slice p2 n2 c2) := cells_below HR.out (row_cell HT2.out 0) HZ6.out.2.2
      have x2_1 : wr.cell? ⟨v5.heap.size, 1, none⟩ = some (.int .i64 en2) := cells_below HR.out (row_cell HT2.out 1) HZ6.out.2.2
      have x2_2 : wr.cell? ⟨v5.heap.size, 2, none⟩ = some (.int .u64 z0) := cells_below HR.out (row_cell HT2.out 2) HZ6.out.2.2
      have x2_3 : wr.cell? ⟨v5.heap.size, 3, none⟩ = some (.int .u64 z1) := cells_below HR.out (row_cell HT2.out 3) HZ6.out.2.2
      have x2_4 : wr.cell? ⟨v5.heap.size, 4, none⟩ = some (.int .u64 z2) := cells_below HR.out (row_cell HT2.out 4) HZ6.out.2.2
      have x2_5 : wr.cell? ⟨v5.heap.size, 5, none⟩ = some (.int .u64 z3) := cells_below HR.out (row_cell HT2.out 5) HZ6.out.2.2
      have x2_6 : wr.cell? ⟨v5.heap.size, 6, none⟩ = some (.int .u64 z4) := cells_below HR.out (row_cell HT2.out 6) HZ6.out.2.2
      have x2_7 : wr.cell? ⟨v5.heap.size, 7, none⟩ = some (.int .u64 z5) := cells_below HR.out (row_cell HT2.out 7) HZ6.out.2.2
      have x2_8 : wr.cell? ⟨v5.heap.size, 8, none⟩ = some (.int .u64 z6) := cells_below HR.out (row_cell HT2.out 8) HZ6.out.2.2
      have x2_9 : wr.cell? ⟨v5.heap.size, 9, none⟩ = some (.int .u64 z7) := cells_below HR.out (row_cell HT2.out 9) HZ6.out.2.2
      have x2_10 : wr.cell? ⟨v5.heap.size, 10, none⟩ = some (.slice m2 l2 d2) := cells_below HR.out (row_cell HT2.out 10) HZ6.out.2.2
      clear b5
      have hst := HST.out p1 c1 m1 d1 p2 c2 m2 d2 wr (HJ1.out.below HR.out) (HJ2.out.below HR.out) (HK1.out.below HR.out) (HK2.out.below HR.out)
      have HS := Lib.hid hst
      clear hst
      go_wp2_with fail
      refine HS.out.mono ?_
      rintro e v7 ⟨rfl, hb⟩
      have HB7 := Lib.hid (HB6.out.trans ((HR.out.trans (hb.mono HR.out.size)).mono HB6.out.size))
      clear hb
      go_wp2
      go_ret
      exact ⟨rfl, HB7.out⟩
end Go.Proofs.YthkhadbeomkihaaDoor
