/-
  The reference's Check.
-/
import Derived.Test.YtjadiijjahjjoaaDoorImN1
namespace Go.Proofs.YtjadiijjahjjoaaDoor
open Go.RowKit

set_option maxRecDepth 10000 in
set_option maxHeartbeats 8000000 in
theorem rcheck_any (mem stk inp : Int) (Ad : Option Addr) (ld cd : Nat) (Af : Option Addr) (lf cf : Nat) (Ac : Option Addr) (lc cc : Nat) (p : Im.Pic) (w : World) (hi : ImAt w Ad ld cd Af lf cf Ac lc cc p) (e0 : p.mem = mem) (e1 : p.stk = stk) (e2 : p.inp = inp) (hlc : lc ≤ 1000000) (hlf : lf ≤ 1000000) (hld : ld ≤ 1000000) :
    Calls Tryd.prog 23 #[.agg #[.int .i64 mem, .int .i64 stk, .int .i64 inp, .slice Ad ld cd, .slice Af lf cf, .slice Ac lc cc]] w fun e w' => e = .returned (.int .i64 (Im.chk p)) ∧ Below w.heap.size w w' := by
  have HDL := Lib.hid hi.d.hlen
  have HFL := Lib.hid hi.f.hlen
  have HCL := Lib.hid hi.c.hlen
  have hC1 : Im.Cnt p ↔ (((0 ≤ mem ∧ mem ≤ 64) ∧ (0 ≤ stk ∧ stk ≤ 16) ∧ (0 ≤ inp ∧ inp ≤ 16) ∧ (ld : Int) ≤ mem ∧ (1 ≤ (lf : Int) ∧ (lf : Int) ≤ 16)) ∧ ((1 ≤ lc ∧ lc ≤ 256) ∧ Im.Places p.fs lc)) := by
    unfold Im.Cnt
    rw [e0, e1, e2, HDL.out, HFL.out, HCL.out]
    constructor
    · rintro ⟨h1, h2, h3, h4, h5, h6, h7⟩
      exact ⟨⟨h1, h2, h3, h4, by omega⟩, h6, h7⟩
    · rintro ⟨⟨h1, h2, h3, h4, h5⟩, h6, h7⟩
      exact ⟨h1, h2, h3, h4, by omega, h6, h7⟩
  have HC1 := Lib.hid hC1
  have HIM := Lib.hid hi
  have H0 := Lib.hid (Below.box w (.cells #[.int .i64 mem, .int .i64 stk, .int .i64 inp, .slice Ad ld cd, .slice Af lf cf, .slice Ac lc cc] 26))
  clear hC1 hi e0 e1 e2
  by_cases hc1 : (0 ≤ mem ∧ mem ≤ 64) ∧ (0 ≤ stk ∧ stk ≤ 16) ∧ (0 ≤ inp ∧ inp ≤ 16) ∧ (ld : Int) ≤ mem ∧ (1 ≤ (lf : Int) ∧ (lf : Int) ≤ 16)
  · have HCC1 := Lib.hid hc1
    obtain ⟨⟨m1, m2⟩, ⟨m3, m4⟩, ⟨m5, m6⟩, m7, m8, m9⟩ := hc1
    have b0 : (w.alloc (.cells #[.int .i64 mem, .int .i64 stk, .int .i64 inp, .slice Ad ld cd, .slice Af lf cf, .slice Ac lc cc] 26)).cell? ⟨w.heap.size, 0, none⟩ = some (.int .i64 mem) := by simp
    have b1 : (w.alloc (.cells #[.int .i64 mem, .int .i64 stk, .int .i64 inp, .slice Ad ld cd, .slice Af lf cf, .slice Ac lc cc] 26)).cell? ⟨w.heap.size, 1, none⟩ = some (.int .i64 stk) := by simp
    have b2 : (w.alloc (.cells #[.int .i64 mem, .int .i64 stk, .int .i64 inp, .slice Ad ld cd, .slice Af lf cf, .slice Ac lc cc] 26)).cell? ⟨w.heap.size, 2, none⟩ = some (.int .i64 inp) := by simp
    have b3 : (w.alloc (.cells #[.int .i64 mem, .int .i64 stk, .int .i64 inp, .slice Ad ld cd, .slice Af lf cf, .slice Ac lc cc] 26)).cell? ⟨w.heap.size, 3, none⟩ = some (.slice Ad ld cd) := by simp
    have b4 : (w.alloc (.cells #[.int .i64 mem, .int .i64 stk, .int .i64 inp, .slice Ad ld cd, .slice Af lf cf, .slice Ac lc cc] 26)).cell? ⟨w.heap.size, 4, none⟩ = some (.slice Af lf cf) := by simp
    have b5 : (w.alloc (.cells #[.int .i64 mem, .int .i64 stk, .int .i64 inp, .slice Ad ld cd, .slice Af lf cf, .slice Ac lc cc] 26)).cell? ⟨w.heap.size, 5, none⟩ = some (.slice Ac lc cc) := by simp
    have G0 := Lib.hid b0
    have G1 := Lib.hid b1
    have G2 := Lib.hid b2
    have G3 := Lib.hid b3
    have G4 := Lib.hid b4
    have G5 := Lib.hid b5
    clear b0 b1 b2 b3 b4 b5
    obtain ⟨bf, of, hAf, hbf, hcf⟩ := HIM.out.f.mem (by omega)
    have HCF := Lib.hid hcf
    have HBF := Lib.hid hbf
    have HAF := Lib.hid hAf
    clear hcf hbf hAf
    go_enter Tryd.func23, Tryd.ntmps23
    go_wp2_with (go_at_call 42; refine (rin_any _ _ _ _).mono ?_; rintro e w' ⟨rfl, rfl⟩)
    go_loopw [3] (fun i wr => ∃ k : Nat, k ≤ lf ∧ i = .int .i64 k ∧ Below (w.heap.size + 1) (w.alloc (.cells #[.int .i64 mem, .int .i64 stk, .int .i64 inp, .slice Ad ld cd, .slice Af lf cf, .slice Ac lc cc] 26)) wr ∧ (0 < k → p.fs.getD 0 0 = 0) ∧ ∀ j, j + 1 < k → p.fs.getD j 0 < p.fs.getD (j + 1) 0) (fun i _ => lf - (intOf i).toNat)
    case atStart => exact ⟨0, by omega, rfl, Below.refl _ _, fun h => absurd h (by omega), fun j hj => absurd hj (by omega)⟩
    case round =>
      obtain ⟨k, hk, rfl, hbr, hz0, hall⟩ := hrel
      have c0 := cells_below hbr G0.out (by simp)
      have c1 := cells_below hbr G1.out (by simp)
      have c2 := cells_below hbr G2.out (by simp)
      have c3 := cells_below hbr G3.out (by simp)
      have c4 := cells_below hbr G4.out (by simp)
      have c5 := cells_below hbr G5.out (by simp)
      rw [HAF.out] at c4
      have HR := Lib.hid hbr
      have HA := Lib.hid hall
      have HZ0 := Lib.hid hz0
      clear hbr hall hz0
      have hcell : ∀ i, i < lf → wr.cell? ⟨bf, of + i, none⟩ = some (.int .i64 (p.fs.getD i 0)) := fun i hi => cells_below HR.out (cells_below H0.out (HCF.out i hi) HBF.out) (Nat.lt_succ_of_lt HBF.out)
      have HCELL := Lib.hid hcell
      clear hcell
      by_cases hlt : k < lf
      · have hki : (k : Int) < lf := by omega
        match k, hk, hlt, hki, HA, HZ0 with
        | 0, hk, hlt, hki, HA, HZ0 =>
          have d0 : wr.cell? ⟨bf, of, none⟩ = some (.int .i64 (p.fs.getD 0 0)) := HCELL.out 0 hlt
          have hz : ∃ z, p.fs.getD 0 0 = z := ⟨_, rfl⟩
          obtain ⟨z, hz⟩ := hz
          rw [hz] at d0
          have HZ := Lib.hid hz
          clear hz
          by_cases hz : z = 0
          · have hz' : (z != 0) = false := by simpa using hz
            go_wp2_with fail
            go_quiet (fail)
            go_wp2
            go_roundw
            case rel => exact ⟨1, by omega, by go_num, below_drewN HR.out nq, fun _ => by rw [HZ.out]; exact hz, fun j hj => absurd hj (by omega)⟩
            case measure => simp [intOf]; omega
          · have hz' : (z != 0) = true := by simpa using hz
            have hck : Im.chk p = 3 := Im.chk_cnt fun h => hz (by rw [← HZ.out]; exact (HC1.out.1 h).2.2.1)
            have HCK := Lib.hid hck
            clear hck
            go_wp2_with fail
            go_quiet (fail)
            go_wp2
            go_ret
            exact ⟨cret_int HCK.out.symm, H0.out.trans (below_drewN (HR.out.mono (by omega)) nq)⟩
        | j + 1, hk, hlt, hki, HA, HZ0 =>
          have d0 := HCELL.out j (by omega)
          have d1 := HCELL.out (j + 1) hlt
          have hz : ∃ z0 z1, p.fs.getD j 0 = z0 ∧ p.fs.getD (j + 1) 0 = z1 := ⟨_, _, rfl, rfl⟩
          obtain ⟨z0, z1, e0, e1⟩ := hz
          rw [e0] at d0
          rw [e1] at d1
          have E0 := Lib.hid e0
          have E1 := Lib.hid e1
          have hj1 : (j : Int) + 1 < lf := by omega
          have hj0 : ((j : Int) + 1 == 0) = false := by
            have : ¬ (j : Int) + 1 = 0 := by omega
            simpa using this
          have hjp : (0 : Int) < (j : Int) + 1 := by omega
          clear e0 e1
          by_cases hz : z1 ≤ z0
          · have hck : Im.chk p = 3 := Im.chk_cnt fun h => by
              have := (HC1.out.1 h).2.2.2.1 j (by have := HFL.out; omega)
              rw [E0.out, E1.out] at this
              omega
            have HCK := Lib.hid hck
            clear hck
            go_wp2_with fail
            go_quiet (fail)
            go_wp2
            go_ret
            exact ⟨cret_int HCK.out.symm, H0.out.trans (below_drewN (HR.out.mono (by omega)) nq)⟩
          · go_wp2_with fail
            go_quiet (fail)
            go_wp2
            go_roundw
            case rel =>
              refine ⟨j + 1 + 1, by omega, by go_num, below_drewN HR.out nq, fun _ => HZ0.out (by omega), fun i hi => ?_⟩
              rcases Nat.lt_succ_iff_lt_or_eq.1 hi with h | h
              · exact HA.out i h
              · obtain rfl : i = j := by omega
                rw [E0.out, E1.out]; omega
            case measure => simp [intOf]; omega
      · have hkl : lf = k := by omega
        subst hkl
        obtain ⟨kf, hkf⟩ : ∃ kf, lf = kf + 1 := ⟨lf - 1, by omega⟩
        have d1 := HCELL.out kf (by omega)
        have hz : ∃ z, p.fs.getD kf 0 = z := ⟨_, rfl⟩
        obtain ⟨z, hz⟩ := hz
        rw [hz] at d1
        have HZ := Lib.hid hz
        have hPl : Im.Places p.fs lc ↔ z < lc := by
          have hl : p.fs.length - 1 = kf := by have := HFL.out; omega
          unfold Im.Places
          rw [hl, hz]
          exact ⟨fun h => h.2.2, fun h => ⟨HZ0.out (by omega), fun j hj => HA.out j (by omega), h⟩⟩
        have HPL := Lib.hid hPl
        have hlf' : (lf : Int) - 1 = kf := by omega
        have hkf1 : (kf : Int) < lf := by omega
        have hkf2 : kf < lf := by omega
        have HKF := Lib.hid hkf
        clear hz hPl hkf
        by_cases h256 : (256 : Int) < lc
        · have hd256 : decide ((256 : Int) < (lc : Int)) = true := decide_eq_true h256
          have hck : Im.chk p = 3 := Im.chk_cnt fun h => by have := (HC1.out.1 h).2.1.2; omega
          have HCK := Lib.hid hck
          clear hck
          go_wp2_with fail
          go_quiet (fail)
          go_wp2
          go_ret
          exact ⟨cret_int HCK.out.symm, H0.out.trans (below_drewN (HR.out.mono (by omega)) nq)⟩
        · have hd256 : decide ((256 : Int) < (lc : Int)) = false := decide_eq_false h256
          by_cases hzl : (lc : Int) ≤ z
          · have hck : Im.chk p = 3 := Im.chk_cnt fun h => by have := HPL.out.1 (HC1.out.1 h).2.2; omega
            have HCK := Lib.hid hck
            clear hck
            go_wp2_with fail
            go_quiet (fail)
            go_wp2
            go_ret
            exact ⟨cret_int HCK.out.symm, H0.out.trans (below_drewN (HR.out.mono (by omega)) nq)⟩
          · have hP : Im.Places p.fs lc := HPL.out.2 (by omega)
            have hnn := hP.nonneg (k := kf) (by have := HFL.out; omega)
            rw [HZ.out] at hnn
            have hlc1 : 1 ≤ lc := by omega
            have hCn : Im.Cnt p := HC1.out.2 ⟨HCC1.out, ⟨hlc1, by omega⟩, hP⟩
            have HCN := Lib.hid hCn
            have HPP := Lib.hid hP
            have HRG := Lib.hid HIM.out.c.rng
            obtain ⟨bc, oc, hAc, hbc, hcc⟩ := HIM.out.c.mem (by omega)
            have HCC := Lib.hid hcc
            have HBC := Lib.hid hbc
            have HAC := Lib.hid hAc
            clear hcc hbc hAc hCn hP
            go_wp2_with fail
            go_quiet (fail)
            go_wp2
            go_loopw [4] (fun i wx => ∃ q : Nat, q ≤ lc ∧ i = .int .i64 q ∧ Below (w.heap.size + 1) (w.alloc (.cells #[.int .i64 mem, .int .i64 stk, .int .i64 inp, .slice Ad ld cd, .slice Af lf cf, .slice Ac lc cc] 26)) wx ∧ ∀ j, j < q → Im.bad5 (p.cs.getD j Im.z5) = -1) (fun i _ => lc - (intOf i).toNat)
            case atStart => exact ⟨0, by omega, rfl, below_drewN HR.out nq, fun j hj => absurd hj (by omega)⟩
            case round =>
              obtain ⟨q, hq, rfl, hbx, hall⟩ := hrel
              have x0 := cells_below hbx G0.out (by simp)
              have x1 := cells_below hbx G1.out (by simp)
              have x2 := cells_below hbx G2.out (by simp)
              have x3 := cells_below hbx G3.out (by simp)
              have x4 := cells_below hbx G4.out (by simp)
              have x5 := cells_below hbx G5.out (by simp)
              have HX := Lib.hid hbx
              have HL := Lib.hid hall
              clear hbx hall c0 c1 c2 c3 c4 c5 d1
              by_cases hqt : q < lc
              · have hqi : (q : Int) < lc := by omega
                rw [HAC.out] at x5
                have hins := ((HCC.out q hqt).keep (fun o => H0.out.cell (p := ⟨bc, o, none⟩) HBC.out)).keep (fun o => HX.out.cell (p := ⟨bc, o, none⟩) (Nat.lt_succ_of_lt HBC.out))
                have hm := HRG.out q
                have hI5 : ∃ i, p.cs.getD q Im.z5 = i := ⟨_, rfl⟩
                obtain ⟨⟨op, a, b, c', m⟩, hei⟩ := hI5
                rw [hei] at hins hm
                obtain ⟨y0, y1, y2, y3, y4⟩ := hins
                simp only at y0 y1 y2 y3 y4 hm
                have HEI := Lib.hid hei
                clear hei
                by_cases hbad : Cd.bad op a b c' m = -1
                · have HBD := Lib.hid hbad
                  clear hbad
                  go_wp2_with fail
                  refine (rput_ok op a b c' m _ HBD.out hm.1 hm.2).mono ?_
                  rintro e v2 ⟨g, cap, rfl, _, hb2⟩
                  have HB2 := Lib.hid (HX.out.trans (hb2.mono (by have := HX.out.size; simp at this; omega)))
                  clear hb2
                  go_wp2
                  go_roundw
                  case rel =>
                    refine ⟨q + 1, by omega, by go_num, HB2.out, fun j hj => ?_⟩
                    rcases Nat.lt_succ_iff_lt_or_eq.1 hj with h | h
                    · exact HL.out j h
                    · rw [h, HEI.out]; exact HBD.out
                  case measure => simp [intOf]; omega
                · have hck : Im.chk p = Cd.er (Cd.bad op a b c' m) := by
                    have h1 := Im.firstE_at p.cs q (by have := HCL.out; omega) HL.out (by rw [HEI.out]; exact hbad)
                    rw [HEI.out] at h1
                    exact Im.chk_bad HCN.out h1 (Im.er_ne hbad)
                  have hne : (Cd.er (Cd.bad op a b c' m) != 0) = true := by simpa using Im.er_ne hbad
                  have HBD := Lib.hid hbad
                  have HCK := Lib.hid hck
                  clear hck hbad
                  go_wp2_with fail
                  refine (rput_bad op a b c' m _ HBD.out).mono ?_
                  rintro e v2 ⟨rfl, hb2⟩
                  have HB2 := Lib.hid (HX.out.trans (hb2.mono (by have := HX.out.size; simp at this; omega)))
                  clear hb2
                  go_wp2
                  go_ret
                  exact ⟨cret_int HCK.out.symm, H0.out.trans (HB2.out.mono (by omega))⟩
              · have hall : ∀ j, j < p.cs.length → Im.bad5 (p.cs.getD j Im.z5) = -1 := fun j hj => HL.out j (by have := HCL.out; omega)
                have hck := Im.chk_fl HCN.out (Im.firstE_none _ hall)
                have HCK := Lib.hid hck
                have hIx := (HIM.out.below H0.out).below (HX.out.mono (by simp))
                have HST := Lib.hid (rstray_any mem stk inp Ad ld cd Af lf cf Ac lc cc p wr hIx HPP.out (by omega) hlc1 hlc hlf)
                have hst : (Im.flB p.fs p.cs = true ∧ 0 ≤ Im.st p.fs p.cs) ∨ (Im.flB p.fs p.cs = false ∧ Im.st p.fs p.cs = -1) := by
                  unfold Im.flB Im.st
                  by_cases h : Im.stray p.fs p.cs < p.cs.length
                  · rw [decide_eq_true h, if_pos h]
                    exact .inl ⟨rfl, by omega⟩
                  · rw [decide_eq_false h, if_neg h]
                    exact .inr ⟨rfl, rfl⟩
                have hs : ∃ s, Im.st p.fs p.cs = s := ⟨_, rfl⟩
                obtain ⟨s, hs⟩ := hs
                rw [hs] at hst HST
                clear hck hall hs hIx
                go_wp2_with fail
                refine HST.out.mono ?_
                rintro e v2 ⟨rfl, hb2⟩
                have HB2 := Lib.hid (HX.out.trans (hb2.mono (by have := HX.out.size; simp at this; omega)))
                clear hb2 x0 x1 x2 x3 x4 x5
                rcases hst with ⟨h1, h2⟩ | ⟨h1, h2⟩
                · have hcc := HCK.out
                  rw [h1, if_pos rfl] at hcc
                  have HCC7 := Lib.hid hcc
                  clear hcc h1
                  go_wp2
                  go_ret
                  exact ⟨cret_int HCC7.out.symm, H0.out.trans (HB2.out.mono (by omega))⟩
                · have hcc := HCK.out
                  rw [h1] at hcc
                  have HCC7 := Lib.hid (show Im.chk p = 0 from hcc)
                  subst h2
                  clear hcc h1
                  go_wp2
                  go_ret
                  exact ⟨cret_int HCC7.out.symm, H0.out.trans (HB2.out.mono (by omega))⟩
  · have hck : Im.chk p = 3 := Im.chk_cnt fun h => hc1 (HC1.out.1 h).1
    rw [hck]
    have HNC := Lib.hid hc1
    clear hck hc1
    go_enter Tryd.func23, Tryd.ntmps23
    go_wp2_with (go_at_call 42; refine (rin_any _ _ _ _).mono ?_; rintro e w' ⟨rfl, rfl⟩)
    all_goals first
      | (go_ret
         exact ⟨rfl, H0.out⟩)
      | (exfalso
         apply HNC.out
         clear HNC HC1 HIM H0
         simp_all
         try omega)
end Go.Proofs.YtjadiijjahjjoaaDoor
