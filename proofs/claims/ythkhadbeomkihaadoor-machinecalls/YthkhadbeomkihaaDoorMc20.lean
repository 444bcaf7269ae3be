/-
  MachineReach: runs of more steps begin as runs of fewer; the law's walk.
-/
import Derived.Test.YthkhadbeomkihaaDoorMcOp
namespace Go.Proofs.YthkhadbeomkihaaDoor
set_option maxRecDepth 100000
open Go.RowKit

namespace Mc
theorem go_path {p : Im.Pic} {xs : List Int} : ∀ (n : Nat) (s : St) (path : List Int), ∃ l, (go p xs n s path).1 = path ++ l ∧ l.length ≤ n := by
  intro n
  induction n with
  | zero => intro s path; exact ⟨[], by simp [go], Nat.le_refl _⟩
  | succ n ih =>
    intro s path
    rw [go]
    split
    · obtain ⟨l, hl, hn⟩ := ih (step p xs s).1 (path ++ [(step p xs s).1.pl])
      exact ⟨(step p xs s).1.pl :: l, by rw [hl]; simp, by simp; omega⟩
    · exact ⟨[], by simp, by simp⟩
theorem go_more {p : Im.Pic} {xs : List Int} : ∀ (n m : Nat) (s : St) (path : List Int), ∃ l, (go p xs (n + m) s path).1 = (go p xs n s path).1 ++ l := by
  intro n
  induction n with
  | zero =>
    intro m s path
    obtain ⟨l, hl, _⟩ := go_path (p := p) (xs := xs) m s path
    exact ⟨l, by rw [Nat.zero_add, hl]; rfl⟩
  | succ n ih =>
    intro m s path
    rw [show n + 1 + m = (n + m) + 1 by omega, go, go]
    split
    · exact ih m _ _
    · exact ⟨[], by simp⟩
theorem answer_len (p : Im.Pic) (xs : List Int) (steps : Int) : ((answer p xs steps).1.length : Int) ≤ max steps 0 + 1 := by
  unfold answer
  split
  · simp only [List.length_nil]; omega
  · split
    · simp only [List.length_nil]; omega
    · obtain ⟨l, hl, hn⟩ := go_path (p := p) (xs := xs) (most steps) (start p) [0]
      show (((go p xs (most steps) (start p) [0]).1.length : Nat) : Int) ≤ _
      rw [hl]
      have : ((most steps : Nat) : Int) ≤ max steps 0 := by unfold most; omega
      simp
      omega
theorem answer_pre (p : Im.Pic) (xs : List Int) {a b : Int} (h : a ≤ b) : ∃ l, (answer p xs b).1 = (answer p xs a).1 ++ l := by
  unfold answer
  split
  · exact ⟨[], rfl⟩
  · split
    · exact ⟨[], rfl⟩
    · obtain ⟨d, hd⟩ : ∃ d, most b = most a + d := ⟨most b - most a, by unfold most; omega⟩
      obtain ⟨l, hl⟩ := go_more (p := p) (xs := xs) (most a) d (start p) [0]
      exact ⟨l, by show (go p xs (most b) (start p) [0]).1 = (go p xs (most a) (start p) [0]).1 ++ l; rw [hd]; exact hl⟩
theorem first_spec {l : List Int} {x : Int} (h : 0 ≤ first l x) : ∃ k : Nat, first l x = k ∧ k < l.length ∧ l.getD k 0 = x ∧ ∀ j, j < k → l.getD j 0 ≠ x := by
  unfold first at *
  split at h
  · rename_i h1
    rw [if_pos h1]
    refine ⟨_, rfl, h1, ?_, fun j hj => ?_⟩
    · have := List.findIdx_getElem (p := (· == x)) (xs := l) (w := h1)
      rw [List.getD_eq_getElem?_getD, List.getElem?_eq_getElem h1]
      simpa using this
    · have := List.not_of_lt_findIdx (p := (· == x)) (xs := l) hj
      rw [List.getD_eq_getElem?_getD, List.getElem?_eq_getElem (by omega)]
      simpa using this
  · omega
theorem first_pre {a l : List Int} {x : Int} (h : 0 ≤ first a x) : first (a ++ l) x = first a x := by
  obtain ⟨k, e, h1, h2, h3⟩ := first_spec h
  rw [e]
  have g : ∀ j, j < a.length → (a ++ l).getD j 0 = a.getD j 0 := fun j hj => by rw [List.getD_eq_getElem?_getD, List.getD_eq_getElem?_getD, List.getElem?_append_left hj]
  exact first_at (by simp; omega) (by rw [g k h1]; exact h2) fun j hj => by rw [g j (by omega)]; exact h3 j hj
end Mc

set_option maxRecDepth 20000 in
set_option maxHeartbeats 6400000 in
theorem reachL_walk (mem stk inp : Int) (Ad : Option Addr) (ld cd : Nat) (Af : Option Addr) (lf cf : Nat) (Ac : Option Addr) (lc cc : Nat) (P : Im.Pic) (Ai : Option Addr) (li ci : Nat) (xs : List Int) (t steps more : Int) (w : World) (ho : Ops w) (hi : ImAt w Ad ld cd Af lf cf Ac lc cc P) (e0 : P.mem = mem) (e1 : P.stk = stk) (e2 : P.inp = inp) (hx : BySl w Ai li ci xs) :
    Calls Tryd.prog 6 #[.agg #[.int .i64 mem, .int .i64 stk, .int .i64 inp, .slice Ad ld cd, .slice Af lf cf, .slice Ac lc cc], .slice Ai li ci, .int .i64 t, .int .i64 steps, .int .i64 more] w fun e w' => e = .returned (.bool true) ∧ Below w.heap.size w w' := by
  have hp := ho.pos
  have HA : HdAt w ⟨mem, stk, inp, Ad, ld, cd, Af, lf, cf, Ac, lc, cc, Ai, li, ci, P, xs⟩ := ⟨hi, e0, e1, e2, hx⟩
  have hld := Nat.le_trans hi.d.hle hi.d.hcap
  have hlf := Nat.le_trans hi.f.hle hi.f.hcap
  have hlc := Nat.le_trans hi.c.hle hi.c.hcap
  have hli := Nat.le_trans hx.hle hx.hcap
  have hgr := fun s W => great_any mem stk inp Ad ld cd Af lf cf Ac lc cc Ai li ci s W hld hlf hlc hli
  have haw : ∀ W, Below w.heap.size w W → Calls Tryd.prog 10 #[] W fun e w' => e = .returned (.bool true) ∧ Below W.heap.size W w' := fun W hW => mc_awake W (ho.below hW hp)
  have hrc : ∀ s W, Below w.heap.size w W → Calls Tryd.prog 14 #[.agg #[.int .i64 mem, .int .i64 stk, .int .i64 inp, .slice Ad ld cd, .slice Af lf cf, .slice Ac lc cc], .slice Ai li ci, .int .i64 t, .int .i64 s] W fun e w' => e = .returned (.tuple #[.int .i64 (Mc.reachN P xs t s), .bool (Mc.reachB P xs t s)]) ∧ Below W.heap.size W w' := fun s W hW => reach_any' ⟨mem, stk, inp, Ad, ld, cd, Af, lf, cf, Ac, lc, cc, Ai, li, ci, P, xs⟩ t s W (ho.below hW hp) (HA.below hW)
  have hrn : ∀ W, Below w.heap.size w W → Calls Tryd.prog 12 #[.agg #[.int .i64 mem, .int .i64 stk, .int .i64 inp, .slice Ad ld cd, .slice Af lf cf, .slice Ac lc cc], .slice Ai li ci, .int .i64 steps] W (RunA (Mc.answer P xs steps) W) := fun W hW => run_any ⟨mem, stk, inp, Ad, ld, cd, Af, lf, cf, Ac, lc, cc, Ai, li, ci, P, xs⟩ steps W (ho.below hW hp) (HA.below hW)
  have hlen := Mc.answer_len P xs steps
  have hpre := fun h => Mc.answer_pre P xs (a := steps) (b := more) h
  have hfs : ∀ (A : Option Addr) (cap : Nat) (W : World), InSl W A (Mc.answer P xs steps).1.length cap (Mc.answer P xs steps).1 → Calls Tryd.prog 25 #[.slice A (Mc.answer P xs steps).1.length cap, .int .i64 t] W fun e w' => e = .returned (.int .i64 (Mc.first (Mc.answer P xs steps).1 t)) ∧ Below W.heap.size W w' := fun A cap W h => first_any A _ cap _ t W h
  have hfg := Mc.first_ge (Mc.answer P xs steps).1 t
  have hN1 : Mc.reachN P xs t steps = max (Mc.first (Mc.answer P xs steps).1 t) 0 := rfl
  have hB1 : Mc.reachB P xs t steps = decide (0 ≤ Mc.first (Mc.answer P xs steps).1 t) := rfl
  have hN2 : steps ≤ more → 0 ≤ Mc.first (Mc.answer P xs steps).1 t → Mc.reachN P xs t more = Mc.first (Mc.answer P xs steps).1 t ∧ Mc.reachB P xs t more = true := fun h1 h2 => by
    obtain ⟨l, hl⟩ := hpre h1
    unfold Mc.reachN Mc.reachB
    rw [hl, Mc.first_pre h2]
    exact ⟨by omega, decide_eq_true h2⟩
  have hr1 := hrc steps
  have hr2 := hrc more
  clear hrc
  generalize Mc.first (Mc.answer P xs steps).1 t = f at *
  generalize Mc.reachN P xs t more = n2 at *
  generalize Mc.reachB P xs t more = b2 at *
  rw [hN1, hB1] at hr1
  obtain ⟨T, hT⟩ : ∃ T, T = max steps 0 := ⟨_, rfl⟩
  have hmx : ∀ ts t W, (Builtin.max_ ts t #[.int .i64 steps, .int .i64 0]).run Tryd.prog W = .ok (.int .i64 T) W := fun ts t W => by
    have : T = if steps < 0 then 0 else steps := by rw [hT]; split <;> omega
    rw [this]
    simp [Builtin.max_, Builtin.max2]
  have hfT : f ≤ T := by omega
  generalize Mc.answer P xs steps = r at *
  obtain ⟨path, en, rg, mm, er⟩ := r
  simp only at hfs hlen hfg
  have hq := hgr steps
  generalize greatB ld lf lc li steps = q at *
  have HGR := Lib.hid hq
  have HAW := Lib.hid haw
  have HR1 := Lib.hid hr1
  have HR2 := Lib.hid hr2
  have HRN := Lib.hid hrn
  have HFS := Lib.hid hfs
  have HN2 := Lib.hid hN2
  have HMX := Lib.hid hmx
  have HFT := Lib.hid (And.intro hfT (And.intro hfg.1 hT))
  clear hq haw hr1 hr2 hrn hfs hN2 hmx hfT hgr hN1 hB1 hlen hpre hfg hT hi hx HA e0 e1 e2 ho
  go_enter Tryd.func6, Tryd.ntmps6
  go_wp2_with fail
  have hB0 := Below.box w (.cells #[.int .i64 mem, .int .i64 stk, .int .i64 inp, .slice Ad ld cd, .slice Af lf cf, .slice Ac lc cc] 26)
  have hX0 : (w.alloc (.cells #[.int .i64 mem, .int .i64 stk, .int .i64 inp, .slice Ad ld cd, .slice Af lf cf, .slice Ac lc cc] 26)).heap[w.heap.size]? = some (.cells #[.int .i64 mem, .int .i64 stk, .int .i64 inp, .slice Ad ld cd, .slice Af lf cf, .slice Ac lc cc] 26 (0, 0)) := heap_newM rfl
  have hz0 : w.heap.size < (w.alloc (.cells #[.int .i64 mem, .int .i64 stk, .int .i64 inp, .slice Ad ld cd, .slice Af lf cf, .slice Ac lc cc] 26)).heap.size := by simp
  generalize w.alloc (.cells #[.int .i64 mem, .int .i64 stk, .int .i64 inp, .slice Ad ld cd, .slice Af lf cf, .slice Ac lc cc] 26) = w0 at *
  refine (HAW.out _ hB0).mono ?_
  rintro e v ⟨rfl, hb⟩
  have HX1 := Lib.hid ((hb.block _ hz0).trans hX0)
  have HB1 := Lib.hid (hB0.trans (hb.mono hB0.size))
  have HZ1 := Lib.hid (Nat.lt_of_lt_of_le hz0 hb.size)
  clear hB0 hX0 hz0 hb
  have q0 := row_cell HX1.out 0
  have q1 := row_cell HX1.out 1
  have q2 := row_cell HX1.out 2
  have q3 := row_cell HX1.out 3
  have q4 := row_cell HX1.out 4
  have q5 := row_cell HX1.out 5
  simp at q0 q1 q2 q3 q4 q5
  go_wp2_with fail
  refine (HGR.out _).mono ?_
  rintro e v2 ⟨rfl, hb⟩
  have HX2 := Lib.hid ((hb.block _ HZ1.out).trans HX1.out)
  have HB2 := Lib.hid (HB1.out.trans (hb.mono HB1.out.size))
  have HZ2 := Lib.hid (Nat.lt_of_lt_of_le HZ1.out hb.size)
  clear hb
  clear q0 q1 q2 q3 q4 q5
  have q0 := row_cell HX2.out 0
  have q1 := row_cell HX2.out 1
  have q2 := row_cell HX2.out 2
  have q3 := row_cell HX2.out 3
  have q4 := row_cell HX2.out 4
  have q5 := row_cell HX2.out 5
  simp at q0 q1 q2 q3 q4 q5
  by_cases hq : q = true
  · subst hq
    go_wp2
    go_ret
    exact ⟨rfl, HB2.out⟩
  have hq : q = false := by simpa using hq
  subst hq
  by_cases hm : 300 < more
  · go_wp2
    go_ret
    exact ⟨rfl, HB2.out⟩
  go_wp2_with fail
  refine (HR1.out _ HB2.out).mono ?_
  rintro e v3 ⟨rfl, hb⟩
  have HX3 := Lib.hid ((hb.block _ HZ2.out).trans HX2.out)
  have HB3 := Lib.hid (HB2.out.trans (hb.mono HB2.out.size))
  have HZ3 := Lib.hid (Nat.lt_of_lt_of_le HZ2.out hb.size)
  clear hb
  clear q0 q1 q2 q3 q4 q5
  have q0 := row_cell HX3.out 0
  have q1 := row_cell HX3.out 1
  have q2 := row_cell HX3.out 2
  have q3 := row_cell HX3.out 3
  have q4 := row_cell HX3.out 4
  have q5 := row_cell HX3.out 5
  simp at q0 q1 q2 q3 q4 q5
  go_wp2_with fail
  refine (HRN.out _ HB3.out).mono ?_
  rintro e v4 ⟨pA, pcap, mA, mcap, rfl, hin, hby, hb⟩
  have HX4 := Lib.hid ((hb.block _ HZ3.out).trans HX3.out)
  have HB4 := Lib.hid (HB3.out.trans (hb.mono HB3.out.size))
  have HZ4 := Lib.hid (Nat.lt_of_lt_of_le HZ3.out hb.size)
  simp only [trC] at hin ⊢
  have HIN := Lib.hid hin
  have HF1 := Lib.hid (HFS.out pA pcap)
  clear hb hin hby
  clear q0 q1 q2 q3 q4 q5
  generalize path.length = pn at *
  generalize rg.getD 0 0 = r0 at *
  generalize rg.getD 1 0 = r1 at *
  generalize rg.getD 2 0 = r2 at *
  generalize rg.getD 3 0 = r3 at *
  generalize rg.getD 4 0 = r4 at *
  generalize rg.getD 5 0 = r5 at *
  generalize rg.getD 6 0 = r6 at *
  generalize rg.getD 7 0 = r7 at *
  generalize mm.length = mn at *
  by_cases hf : 0 ≤ f
  · have hd : decide (0 ≤ f) = true := decide_eq_true hf
    have hmf : max f 0 = f := by omega
    rw [hd, hmf]
    clear hd hmf
    have q0 := row_cell HX4.out 0
    have q1 := row_cell HX4.out 1
    have q2 := row_cell HX4.out 2
    have q3 := row_cell HX4.out 3
    have q4 := row_cell HX4.out 4
    have q5 := row_cell HX4.out 5
    simp at q0 q1 q2 q3 q4 q5
    have hne : w.heap.size ≠ v4.heap.size := by have := HZ4.out; omega
    have hvs := HZ4.out
    go_wp2_with fail
    refine (HR2.out _ (HB4.out.trans ((Below.box _ _).mono HB4.out.size))).mono ?_
    rintro e v5 ⟨rfl, hb⟩
    have HB5 := Lib.hid hb
    have t0 := cells_below hb (row_cell (heap_newM rfl) 0) (by simp)
    simp at t0
    clear hb q0 q1 q2 q3 q4 q5
    have hmx := HMX.out
    have hfT := HFT.out.1
    by_cases hms : more < steps
    · go_wp2_with (go_at_call 25; refine (HF1.out _ ?hw).mono ?_; rotate_left; rintro e v6 ⟨rfl, hb⟩; have HB6 := Lib.hid hb; clear hb)
      case hw => exact (HIN.out.below (Below.box _ _)).below HB5.out
      go_ret
      exact ⟨rfl, HB4.out.trans (((Below.box _ _).trans ((HB5.out.trans (HB6.out.mono HB5.out.size)).mono (by simp))).mono HB4.out.size)⟩
    · obtain ⟨h2, h3⟩ := HN2.out (by omega) hf
      subst h2 h3
      go_wp2_with (go_at_call 25; refine (HF1.out _ ?hw).mono ?_; rotate_left; rintro e v6 ⟨rfl, hb⟩; have HB6 := Lib.hid hb; clear hb)
      case hw => exact (HIN.out.below (Below.box _ _)).below HB5.out
      go_ret
      exact ⟨rfl, HB4.out.trans (((Below.box _ _).trans ((HB5.out.trans (HB6.out.mono HB5.out.size)).mono (by simp))).mono HB4.out.size)⟩
  · have hd : decide (0 ≤ f) = false := decide_eq_false hf
    have hmf : max f 0 = 0 := by omega
    have hflt : f < 0 := by omega
    rw [hd, hmf]
    clear hd hmf
    go_wp2_with (go_at_call 25; refine (HF1.out _ ?hw).mono ?_; rotate_left; rintro e v5 ⟨rfl, hb⟩; have HB5 := Lib.hid hb; clear hb)
    case hw => exact HIN.out.below (Below.box _ _)
    go_ret
    exact ⟨rfl, HB4.out.trans (((Below.box _ _).trans (HB5.out.mono (by simp))).mono HB4.out.size)⟩
end Go.Proofs.YthkhadbeomkihaaDoor
