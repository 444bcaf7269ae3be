/-
  Contracts of flaw and Fun.
-/
import Derived.Test.YthkhadbeomkihaaDoorImW2
namespace Go.Proofs.YthkhadbeomkihaaDoor
set_option maxRecDepth 100000
open Go.RowKit

set_option maxHeartbeats 1600000 in
theorem flaw_any (mem stk inp : Int) (Ad : Option Addr) (ld cd : Nat) (Af : Option Addr) (lf cf : Nat) (Ac : Option Addr) (lc cc : Nat) (p : Im.Pic) (w : World) (hi : ImAt w Ad ld cd Af lf cf Ac lc cc p) (hP : Im.Places p.fs lc) (hn : 1 ≤ lf) :
    Calls Tryd.prog 45 #[.agg #[.int .i64 mem, .int .i64 stk, .int .i64 inp, .slice Ad ld cd, .slice Af lf cf, .slice Ac lc cc]] w fun e w' => e = .returned (.tuple #[.int .i64 (Im.flI p.fs p.cs), .bool (Im.flB p.fs p.cs)]) ∧ Below w.heap.size w w' := by
  have hfl := Lib.hid hi.f.hlen
  have hcl := Lib.hid hi.c.hlen
  have hf2 := Nat.le_trans hi.f.hle hi.f.hcap
  have hc2 := Nat.le_trans hi.c.hle hi.c.hcap
  have HPP := Lib.hid hP
  have hc0 : 0 < lc := by
    have h1 := hP.2.2
    have h2 := hP.nonneg (k := p.fs.length - 1) (by have := hfl.out; omega)
    omega
  obtain ⟨bc, oc, rfl, hbc, hcc⟩ := hi.c.mem hc0
  have HCC := Lib.hid hcc
  have HBC := Lib.hid hbc
  have HRG := Lib.hid hi.c.rng
  have HI := Lib.hid hi
  clear hi hP hcc hbc
  unfold maxLen at hf2 hc2
  have H0 := Lib.hid (Below.box w (.cells #[.int .i64 mem, .int .i64 stk, .int .i64 inp, .slice Ad ld cd, .slice Af lf cf, .slice (some ⟨bc, oc, none⟩) lc cc] 26))
  have b0 : (w.alloc (.cells #[.int .i64 mem, .int .i64 stk, .int .i64 inp, .slice Ad ld cd, .slice Af lf cf, .slice (some ⟨bc, oc, none⟩) lc cc] 26)).cell? ⟨w.heap.size, 0, none⟩ = some (.int .i64 mem) := by simp
  have b1 : (w.alloc (.cells #[.int .i64 mem, .int .i64 stk, .int .i64 inp, .slice Ad ld cd, .slice Af lf cf, .slice (some ⟨bc, oc, none⟩) lc cc] 26)).cell? ⟨w.heap.size, 1, none⟩ = some (.int .i64 stk) := by simp
  have b2 : (w.alloc (.cells #[.int .i64 mem, .int .i64 stk, .int .i64 inp, .slice Ad ld cd, .slice Af lf cf, .slice (some ⟨bc, oc, none⟩) lc cc] 26)).cell? ⟨w.heap.size, 2, none⟩ = some (.int .i64 inp) := by simp
  have b3 : (w.alloc (.cells #[.int .i64 mem, .int .i64 stk, .int .i64 inp, .slice Ad ld cd, .slice Af lf cf, .slice (some ⟨bc, oc, none⟩) lc cc] 26)).cell? ⟨w.heap.size, 3, none⟩ = some (.slice Ad ld cd) := by simp
  have b4 : (w.alloc (.cells #[.int .i64 mem, .int .i64 stk, .int .i64 inp, .slice Ad ld cd, .slice Af lf cf, .slice (some ⟨bc, oc, none⟩) lc cc] 26)).cell? ⟨w.heap.size, 4, none⟩ = some (.slice Af lf cf) := by simp
  have b5 : (w.alloc (.cells #[.int .i64 mem, .int .i64 stk, .int .i64 inp, .slice Ad ld cd, .slice Af lf cf, .slice (some ⟨bc, oc, none⟩) lc cc] 26)).cell? ⟨w.heap.size, 5, none⟩ = some (.slice (some ⟨bc, oc, none⟩) lc cc) := by simp
  have G0 := Lib.hid b0
  have G1 := Lib.hid b1
  have G2 := Lib.hid b2
  have G3 := Lib.hid b3
  have G4 := Lib.hid b4
  have G5 := Lib.hid b5
  clear b0 b1 b2 b3 b4 b5
  go_enter Tryd.func45, Tryd.ntmps45
  go_wp2
  go_loopw [12] (fun i wr => ∃ k : Nat, k ≤ lf ∧ i = .int .i64 k ∧ Below (w.heap.size + 1) (w.alloc (.cells #[.int .i64 mem, .int .i64 stk, .int .i64 inp, .slice Ad ld cd, .slice Af lf cf, .slice (some ⟨bc, oc, none⟩) lc cc] 26)) wr ∧ ∀ j : Nat, (j : Int) < p.fs.getD k lc → Im.okB p.fs p.cs j = true) (fun i _ => lf - (intOf i).toNat)
  case atStart =>
    refine ⟨0, by omega, rfl, Below.refl _ _, fun j hj => ?_⟩
    rw [Im.getD_irrel (b := 0) (by have := hfl.out; omega), HPP.out.1] at hj
    omega
  case round =>
    obtain ⟨k, hk, rfl, hbr, hall⟩ := hrel
    have c0 := cells_below hbr G0.out (by simp)
    have c1 := cells_below hbr G1.out (by simp)
    have c2 := cells_below hbr G2.out (by simp)
    have c3 := cells_below hbr G3.out (by simp)
    have c4 := cells_below hbr G4.out (by simp)
    have c5 := cells_below hbr G5.out (by simp)
    have HR := Lib.hid hbr
    have HA := Lib.hid hall
    clear hbr hall
    by_cases hlt : k < lf
    · have hI : ImAt wr Ad ld cd Af lf cf (some ⟨bc, oc, none⟩) lc cc p := (HI.out.below H0.out).below (HR.out.mono (by simp))
      have HIr := Lib.hid hI
      clear hI
      have HRC := Lib.hid (reach_any mem stk inp Ad ld cd Af lf cf (some ⟨bc, oc, none⟩) lc cc p.fs k wr HIr.out.f hlt (by unfold maxLen; omega))
      have hz : ∃ z0 z1, p.fs.getD k 0 = z0 ∧ Im.till p.fs lc k = z1 := ⟨_, _, rfl, rfl⟩
      obtain ⟨z0, z1, e0, e1⟩ := hz
      rw [e0, e1] at HRC
      have hk' : k < p.fs.length := by have := hfl.out; omega
      have r0 : 0 ≤ z0 := by rw [← e0]; exact HPP.out.nonneg hk'
      have r1 : z0 < z1 := by rw [← e0, ← e1]; exact HPP.out.lt_till hk'
      have r2 : z1 ≤ lc := by rw [← e1]; exact HPP.out.till_le hk'
      have E0 := Lib.hid e0
      have E1 := Lib.hid e1
      clear e0 e1 hk'
      go_wp2_with fail
      refine HRC.out.mono ?_
      rintro e v ⟨rfl, hbv⟩
      have HV := Lib.hid (HR.out.trans (hbv.mono (by have := HR.out.size; simp at this; omega)))
      clear hbv HIr HRC
      go_wp2
      go_loopw [7] (fun i wx => ∃ q : Nat, z0 ≤ q ∧ (q : Int) ≤ z1 ∧ i = .int .i64 q ∧ Below (w.heap.size + 1) (w.alloc (.cells #[.int .i64 mem, .int .i64 stk, .int .i64 inp, .slice Ad ld cd, .slice Af lf cf, .slice (some ⟨bc, oc, none⟩) lc cc] 26)) wx ∧ ∀ j : Nat, j < q → Im.okB p.fs p.cs j = true) (fun i _ => (z1 - intOf i).toNat)
      case atStart =>
        refine ⟨z0.toNat, by omega, by omega, by congr 1; omega, HV.out, fun j hj => HA.out j ?_⟩
        rw [Im.getD_irrel (b := 0) (by have := hfl.out; omega), E0.out]
        omega
      case round =>
        obtain ⟨q, hq0, hq1, rfl, hbx, hal⟩ := hrel
        have d4 := cells_below hbx G4.out (by simp)
        have d5 := cells_below hbx G5.out (by simp)
        have HX := Lib.hid hbx
        have HL := Lib.hid hal
        have hne : w.heap.size < wr.heap.size := by have := hbx.size; simp at this; omega
        clear hbx hal c0 c1 c2 c3 c4 c5
        by_cases hqt : (q : Int) < z1
        · have hq' : q < lc := by omega
          have hqi : (q : Int) < lc := by omega
          have hins : InsAt wr bc (oc + q * 5) (p.cs.getD q Im.z5) := ((HCC.out q hq').keep fun o => H0.out.cell (p := ⟨bc, o, none⟩) HBC.out).keep fun o => HX.out.cell (p := ⟨bc, o, none⟩) (by have := HBC.out; exact Nat.lt_succ_of_lt this)
          have hbcn : bc ≠ wr.heap.size := by have h1 := HBC.out; have h2 := HX.out.size; simp at h2; omega
          have hI5 : ∃ i, p.cs.getD q Im.z5 = i := ⟨_, rfl⟩
          obtain ⟨⟨op, a, b, c, m⟩, hei⟩ := hI5
          rw [hei] at hins
          obtain ⟨x0, x1, x2, x3, x4⟩ := hins
          have HE := Lib.hid hei
          clear hei
          simp only at x0 x1 x2 x3 x4
          have hLd : ∃ L, Im.leads ⟨op, a, b, c, m⟩ z0 z1 lf = L := ⟨_, rfl⟩
          obtain ⟨L, hLe⟩ := hLd
          have HLD : ∀ W : World, Calls Tryd.prog 66 #[.agg #[.int .i64 op, .int .i64 a, .int .i64 b, .int .i64 c, .int .u64 m], .int .i64 z0, .int .i64 z1, .int .i64 lf] W fun e w' => e = .returned (.bool L) ∧ Below W.heap.size W w' := fun W => by
            have := leads_any op a b c m z0 z1 lf W r0 (by omega) (by omega) (by omega) (by omega)
            rw [hLe] at this
            exact this
          have HLL := Lib.hid HLD
          have hok : Im.okB p.fs p.cs q = (L && !(Cd.goes op && decide ((q : Int) + 1 = z1))) := by
            have hcl' := hcl.out
            have h1 := Im.okB_eq (fs := p.fs) (cs := p.cs) (n := k) (k := q) (by rw [hcl']; exact HPP.out) (by have := hfl.out; omega) (by rw [E0.out]; exact hq0) (by rw [hcl', E1.out]; exact hqt) HE.out
            rw [hcl', E0.out, E1.out, hfl.out, hLe] at h1
            exact h1
          have HOK := Lib.hid hok
          clear hok HLD hLe
          go_wp2_with (first
            | (go_at_call 66; refine (HLL.out _).mono ?_; rintro e v2 ⟨rfl, hb2⟩; have HB2 := Lib.hid hb2; have y0 : v2.cell? ⟨wr.heap.size, 0, none⟩ = some (.int .i64 op) := cells_below hb2 (by simp) (by simp); clear hb2)
            | (go_at_call 67; refine (goes_any _ _).mono ?_; rintro e v3 ⟨rfl, rfl⟩))
          · go_ret2
            have h1 : Cd.goes op = true := by assumption
            have h2 : ((q : Int) + 1 == z1) = true := by assumption
            have h3 : L = true := by assumption
            have hok : Im.okB p.fs p.cs q = false := by rw [HOK.out, h1, h3]; simpa using h2
            obtain ⟨e1, e2⟩ := Im.fl_at (by have := hcl.out; omega) hok HL.out
            exact ⟨ret_op e1.symm e2.symm, H0.out.trans (((HX.out.alloc (by omega) _).trans (HB2.out.mono (by simp; omega))).mono (by omega))⟩
          · go_roundw
            case rel =>
              have h2 : ((q : Int) + 1 == z1) = false := by assumption
              have h3 : L = true := by assumption
              have h4 : ¬ (q : Int) + 1 = z1 := by simpa using h2
              refine ⟨q + 1, by omega, by omega, by go_num, (HX.out.alloc (by omega) _).trans (HB2.out.mono (by simp; omega)), fun j hj => ?_⟩
              rcases Nat.lt_succ_iff_lt_or_eq.1 hj with h | h
              · exact HL.out j h
              · rw [h, HOK.out, h3, decide_eq_false h4]; simp
            case measure => simp [intOf]; omega
          · go_roundw
            case rel =>
              have h2 : ¬ Cd.goes op = true := by assumption
              have h3 : L = true := by assumption
              refine ⟨q + 1, by omega, by omega, by go_num, (HX.out.alloc (by omega) _).trans (HB2.out.mono (by simp; omega)), fun j hj => ?_⟩
              rcases Nat.lt_succ_iff_lt_or_eq.1 hj with h | h
              · exact HL.out j h
              · rw [h, HOK.out, h3, Bool.eq_false_iff.2 h2]; simp
            case measure => simp [intOf]; omega
          · go_ret2
            have h3 : ¬ L = true := by assumption
            have hok : Im.okB p.fs p.cs q = false := by rw [HOK.out, Bool.eq_false_iff.2 h3]; simp
            obtain ⟨e1, e2⟩ := Im.fl_at (by have := hcl.out; omega) hok HL.out
            exact ⟨ret_op e1.symm e2.symm, H0.out.trans (((HX.out.alloc (by omega) _).trans (HB2.out.mono (by simp; omega))).mono (by omega))⟩
        · have hqz : (q : Int) = z1 := by omega
          have HQZ := Lib.hid hqz
          clear hqz
          go_wp2
          go_roundw
          case rel =>
            refine ⟨k + 1, by omega, by go_num, HX.out, fun j hj => HL.out j ?_⟩
            have h1 : p.fs.getD (k + 1) lc = z1 := E1.out
            rw [h1, ← HQZ.out] at hj
            omega
          case measure => simp [intOf]; omega
    · have hkl : k = lf := by omega
      have HKL := Lib.hid hkl
      clear hkl
      go_wp2
      go_ret2
      have hall : ∀ j, j < p.cs.length → Im.okB p.fs p.cs j = true := fun j hj => by
        refine HA.out j ?_
        rw [Im.getD_past (by have := hfl.out; have := HKL.out; omega)]
        have := hcl.out
        omega
      obtain ⟨e1, e2⟩ := Im.fl_none hall
      exact ⟨ret_op e1.symm e2.symm, H0.out.trans (HR.out.mono (by omega))⟩
end Go.Proofs.YthkhadbeomkihaaDoor
