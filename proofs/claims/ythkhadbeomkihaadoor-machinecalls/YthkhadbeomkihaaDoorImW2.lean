/-
  Contracts of placesRight and countsRight.
-/
import Derived.Test.YthkhadbeomkihaaDoorImW1
namespace Go.Proofs.YthkhadbeomkihaaDoor
set_option maxRecDepth 100000
open Go.RowKit

set_option maxHeartbeats 800000 in
theorem places_any (mem stk inp : Int) (Ad : Option Addr) (ld cd : Nat) (Af : Option Addr) (lf cf : Nat) (Ac : Option Addr) (lc cc : Nat) (fs : List Int) (w : World) (hf : InSl w Af lf cf fs) (hn : 1 ≤ lf) (hc : lc ≤ maxLen) :
    Calls Tryd.prog 63 #[.agg #[.int .i64 mem, .int .i64 stk, .int .i64 inp, .slice Ad ld cd, .slice Af lf cf, .slice Ac lc cc]] w fun e w' => e = .returned (.bool (decide (Im.Places fs lc))) ∧ Below w.heap.size w w' := by
  obtain ⟨b, o, rfl, hb, hx⟩ := hf.mem (by omega)
  have hl := Lib.hid hf.hlen
  have hcap := hf.hcap
  have hle := hf.hle
  have hne : b ≠ w.heap.size := by omega
  unfold maxLen at hcap hc
  have HX := Lib.hid hx
  have HB := Lib.hid hb
  have h0n : 0 < lf := by omega
  clear hx hf hb
  have B0 : Below w.heap.size w (w.alloc (.cells #[.int .i64 mem, .int .i64 stk, .int .i64 inp, .slice Ad ld cd, .slice (some ⟨b, o, none⟩) lf cf, .slice Ac lc cc] 26)) := Below.box _ _
  have b4 : (w.alloc (.cells #[.int .i64 mem, .int .i64 stk, .int .i64 inp, .slice Ad ld cd, .slice (some ⟨b, o, none⟩) lf cf, .slice Ac lc cc] 26)).cell? ⟨w.heap.size, 4, none⟩ = some (.slice (some ⟨b, o, none⟩) lf cf) := by simp
  have b5 : (w.alloc (.cells #[.int .i64 mem, .int .i64 stk, .int .i64 inp, .slice Ad ld cd, .slice (some ⟨b, o, none⟩) lf cf, .slice Ac lc cc] 26)).cell? ⟨w.heap.size, 5, none⟩ = some (.slice Ac lc cc) := by simp
  have H4 := Lib.hid b4
  have H5 := Lib.hid b5
  have HB0 := Lib.hid B0
  clear b4 b5 B0
  go_enter Tryd.func63, Tryd.ntmps63
  go_wp2
  go_loopw [3] (fun i wr => ∃ k : Nat, k + 1 ≤ lf ∧ i = .int .i64 ((k : Int) + 1) ∧ Below (w.heap.size + 1) (w.alloc (.cells #[.int .i64 mem, .int .i64 stk, .int .i64 inp, .slice Ad ld cd, .slice (some ⟨b, o, none⟩) lf cf, .slice Ac lc cc] 26)) wr ∧ ∀ j, j < k → fs.getD j 0 < fs.getD (j + 1) 0) (fun i _ => lf - (intOf i).toNat)
  case atStart => exact ⟨0, by omega, rfl, Below.refl _ _, fun j hj => absurd hj (by omega)⟩
  case round =>
    obtain ⟨k, hk, rfl, hbr, hall⟩ := hrel
    have c4 := cells_below hbr H4.out (by simp)
    have c5 := cells_below hbr H5.out (by simp)
    have hcell : ∀ i, i < lf → wr.cell? ⟨b, o + i, none⟩ = some (.int .i64 (fs.getD i 0)) := fun i hi => cells_below hbr (cells_below HB0.out (HX.out i hi) HB.out) (by have := HB.out; omega)
    have HC := Lib.hid hcell
    have HR := Lib.hid hbr
    have HA := Lib.hid hall
    clear hcell hbr hall
    by_cases hlt : k + 1 < lf
    · have d1 := HC.out (k + 1) hlt
      have d0 := HC.out k (by omega)
      have hi1 : (k : Int) + 1 < lf := by omega
      have hz : ∃ z0 z1, fs.getD k 0 = z0 ∧ fs.getD (k + 1) 0 = z1 := ⟨_, _, rfl, rfl⟩
      obtain ⟨z0, z1, e0, e1⟩ := hz
      rw [e1] at d1
      rw [e0] at d0
      have E0 := Lib.hid e0
      have E1 := Lib.hid e1
      clear e0 e1
      go_wp2
      go_quiet (fail)
      go_wp2
      · go_ret
        have hle : z1 ≤ z0 := by assumption
        refine ⟨ret_bool ?_, HB0.out.trans (below_drewN (HR.out.mono (by omega)) nq)⟩
        refine (decide_eq_false ?_).symm
        rintro ⟨_, h, _⟩
        have := h k (by have := hl.out; omega)
        rw [E0.out, E1.out] at this
        omega
      · go_roundw
        case rel =>
          have hgt : z0 < z1 := by first | assumption | (have h : ¬ z1 ≤ z0 := by assumption; omega)
          refine ⟨k + 1, by omega, by go_num, below_drewN HR.out nq, fun j hj => ?_⟩
          rcases Nat.lt_succ_iff_lt_or_eq.1 hj with h | h
          · exact HA.out j h
          · subst h; rw [E0.out, E1.out]; omega
        case measure => simp [intOf]; omega
    · have hkl : k + 1 = lf := by omega
      have hi1 : ¬ (k : Int) + 1 < lf := by omega
      have d0 : wr.cell? ⟨b, o, none⟩ = some (.int .i64 (fs.getD 0 0)) := HC.out 0 (by omega)
      have d1 := HC.out k (by omega)
      have hz : ∃ z0 z1, fs.getD 0 0 = z0 ∧ fs.getD k 0 = z1 := ⟨_, _, rfl, rfl⟩
      obtain ⟨z0, z1, e0, e1⟩ := hz
      rw [e1] at d1
      rw [e0] at d0
      have E0 := Lib.hid e0
      have E1 := Lib.hid e1
      clear e0 e1
      have hpl : Im.Places fs lc ↔ (z0 = 0 ∧ z1 < lc) := by
        have h1 : fs.length - 1 = k := by have := hl.out; omega
        unfold Im.Places
        rw [h1, E0.out, E1.out]
        exact ⟨fun h => ⟨h.1, h.2.2⟩, fun h => ⟨h.1, HA.out, h.2⟩⟩
      have HPL := Lib.hid hpl
      clear hpl
      have hlf : (lf : Int) - 1 = k := by omega
      have hkf : (k : Int) < lf := by omega
      have hkf' : k < lf := by omega
      have HK := Lib.hid hkl
      clear hkl
      by_cases hz0 : z0 = 0
      · subst hz0
        go_wp2
        go_quiet (fail)
        go_wp2
        all_goals
          go_ret
          refine ⟨ret_bool ?_, HB0.out.trans (below_drewN (HR.out.mono (by omega)) nq)⟩
          rw [show decide (Im.Places fs lc) = decide (z1 < (lc : Int)) from decide_eq_decide.2 (HPL.out.trans (by simp))]
          try rfl
      · have hz1 : (z0 == 0) = false := by simpa using hz0
        go_wp2
        go_quiet (fail)
        go_wp2
        go_ret
        refine ⟨ret_bool ?_, HB0.out.trans (below_drewN (HR.out.mono (by omega)) nq)⟩
        exact (decide_eq_false (fun h => hz0 (HPL.out.1 h).1)).symm

set_option maxHeartbeats 800000 in
theorem counts_any (mem stk inp : Int) (Ad : Option Addr) (ld cd : Nat) (Af : Option Addr) (lf cf : Nat) (Ac : Option Addr) (lc cc : Nat) (p : Im.Pic) (w : World) (hi : ImAt w Ad ld cd Af lf cf Ac lc cc p) (e0 : p.mem = mem) (e1 : p.stk = stk) (e2 : p.inp = inp) :
    Calls Tryd.prog 42 #[.agg #[.int .i64 mem, .int .i64 stk, .int .i64 inp, .slice Ad ld cd, .slice Af lf cf, .slice Ac lc cc]] w fun e w' => e = .returned (.bool (decide (Im.Cnt p))) ∧ Below w.heap.size w w' := by
  have HI := Lib.hid (hi.below (Below.box w (.cells #[.int .i64 mem, .int .i64 stk, .int .i64 inp, .slice Ad ld cd, .slice Af lf cf, .slice Ac lc cc] 26)))
  have hd := hi.d.hlen
  have hf := hi.f.hlen
  have hc := hi.c.hlen
  have hd1 := hi.d.hle
  have hd2 := hi.d.hcap
  have hf1 := hi.f.hle
  have hf2 := hi.f.hcap
  have hc1 := hi.c.hle
  have hc2 := hi.c.hcap
  have HPL : ∀ W, InSl W Af lf cf p.fs → 1 ≤ lf → Calls Tryd.prog 63 #[.agg #[.int .i64 mem, .int .i64 stk, .int .i64 inp, .slice Ad ld cd, .slice Af lf cf, .slice Ac lc cc]] W fun e w' => e = .returned (.bool (decide (Im.Places p.fs lc))) ∧ Below W.heap.size W w' := fun W h h1 => places_any mem stk inp Ad ld cd Af lf cf Ac lc cc p.fs W h h1 (Nat.le_trans hc1 hc2)
  have HP := Lib.hid HPL
  have hcn : Im.Cnt p ↔ ((0 ≤ mem ∧ mem ≤ 64) ∧ (0 ≤ stk ∧ stk ≤ 16) ∧ (0 ≤ inp ∧ inp ≤ 16) ∧ (0 ≤ (ld : Int) ∧ (ld : Int) ≤ mem) ∧ (1 ≤ (lf : Int) ∧ (lf : Int) ≤ 16) ∧ (1 ≤ (lc : Int) ∧ (lc : Int) ≤ 256) ∧ Im.Places p.fs lc) := by
    unfold Im.Cnt
    rw [e0, e1, e2, hd, hf, hc]
    constructor
    · rintro ⟨h1, h2, h3, h4, h5, h6, h7⟩
      exact ⟨h1, h2, h3, ⟨by omega, h4⟩, by omega, by omega, h7⟩
    · rintro ⟨h1, h2, h3, h4, h5, h6, h7⟩
      exact ⟨h1, h2, h3, h4.2, by omega, by omega, h7⟩
  have HC := Lib.hid hcn
  clear hi hd hf hc hcn HPL e0 e1 e2
  unfold maxLen at hd2 hf2 hc2
  generalize hq : decide (Im.Places p.fs lc) = q at *
  have HQ := Lib.hid hq
  clear hq
  go_enter Tryd.func42, Tryd.ntmps42
  go_wp2_with (first
    | (go_at_call 62; refine (within_any _ _ _ _).mono ?_; rintro e w' ⟨rfl, rfl⟩)
    | (go_at_call 63; refine (HP.out _ HI.out.f ?c1).mono ?_; rotate_left; rintro e v ⟨rfl, hbv⟩; have HV := Lib.hid hbv; clear hbv))
  case c1 => omega
  all_goals go_ret
  all_goals first
    | (refine ⟨ret_bool ?_, (Below.box _ _).trans (HV.out.mono (by simp))⟩
       rw [← HQ.out]
       exact decide_eq_decide.2 ⟨fun h => HC.out.2 ⟨by assumption, by assumption, by assumption, by omega, by assumption, by assumption, h⟩, fun h => (HC.out.1 h).2.2.2.2.2.2⟩)
    | (refine ⟨ret_bool (decide_eq_false ?_).symm, Below.box _ _⟩
       intro h
       obtain ⟨g1, g2, g3, g4, g5, g6, _⟩ := HC.out.1 h
       clear HI HC HP HQ
       simp_all
       try omega)
end Go.Proofs.YthkhadbeomkihaaDoor
