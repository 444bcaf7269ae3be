/-
  Contracts of both Same.
-/
import Derived.Test.YtjadiijjahjjoaaDoorImL4
namespace Go.Proofs.YtjadiijjahjjoaaDoor
open Go.RowKit

theorem Im.same_no {p q : Im.Pic} (h : ¬ (p.mem = q.mem ∧ p.stk = q.stk ∧ p.inp = q.inp ∧ p.ds = q.ds ∧ p.fs = q.fs ∧ p.cs = q.cs)) : Im.same p q = false := by
  rw [Bool.eq_false_iff]
  intro e
  have := Im.same_eq.1 e
  subst this
  exact h ⟨rfl, rfl, rfl, rfl, rfl, rfl⟩
theorem Im.same_yes {p q : Im.Pic} (h1 : p.mem = q.mem) (h2 : p.stk = q.stk) (h3 : p.inp = q.inp) (h4 : p.ds = q.ds) (h5 : p.fs = q.fs) (h6 : p.cs = q.cs) : Im.same p q = true := by
  unfold Im.same
  simp [h1, h2, h3, h4, h5, h6]

set_option maxRecDepth 10000 in
set_option maxHeartbeats 1600000 in
theorem same_any (mem stk inp : Int) (Ad : Option Addr) (ld cd : Nat) (Af : Option Addr) (lf cf : Nat) (Ac : Option Addr) (lc cc : Nat) (mem' stk' inp' : Int) (Ad' : Option Addr) (ld' cd' : Nat) (Af' : Option Addr) (lf' cf' : Nat) (Ac' : Option Addr) (lc' cc' : Nat) (p q : Im.Pic) (w : World) (hi : ImAt w Ad ld cd Af lf cf Ac lc cc p) (hj : ImAt w Ad' ld' cd' Af' lf' cf' Ac' lc' cc' q) (e0 : p.mem = mem) (e1 : p.stk = stk) (e2 : p.inp = inp) (e3 : q.mem = mem') (e4 : q.stk = stk') (e5 : q.inp = inp') :
    Calls Tryd.prog 15 #[.agg #[.int .i64 mem, .int .i64 stk, .int .i64 inp, .slice Ad ld cd, .slice Af lf cf, .slice Ac lc cc], .agg #[.int .i64 mem', .int .i64 stk', .int .i64 inp', .slice Ad' ld' cd', .slice Af' lf' cf', .slice Ac' lc' cc']] w fun e w' => e = .returned (.bool (Im.same p q)) ∧ Below w.heap.size w w' := by
  have hB : Below w.heap.size w ((w.alloc (.cells #[.int .i64 mem, .int .i64 stk, .int .i64 inp, .slice Ad ld cd, .slice Af lf cf, .slice Ac lc cc] 26)).alloc (.cells #[.int .i64 mem', .int .i64 stk', .int .i64 inp', .slice Ad' ld' cd', .slice Af' lf' cf', .slice Ac' lc' cc'] 26)) := ((Below.refl _ _).alloc (Nat.le_refl _) _).alloc (by simp) _
  have HB := Lib.hid hB
  have HI := Lib.hid (hi.below hB)
  have HJ := Lib.hid (hj.below hB)
  have E0 := Lib.hid e0
  have E1 := Lib.hid e1
  have E2 := Lib.hid e2
  have E3 := Lib.hid e3
  have E4 := Lib.hid e4
  have E5 := Lib.hid e5
  clear hi hj e0 e1 e2 e3 e4 e5 hB
  by_cases h1 : mem = mem'
  · have h1' : (mem == mem') = true := by simpa using h1
    by_cases h2 : stk = stk'
    · have h2' : (stk == stk') = true := by simpa using h2
      by_cases h3 : inp = inp'
      · have h3' : (inp == inp') = true := by simpa using h3
        have H1 := Lib.hid h1
        have H2 := Lib.hid h2
        have H3 := Lib.hid h3
        clear h1 h2 h3
        go_enter Tryd.func15, Tryd.ntmps15
        go_wp2_with fail
        refine (eqB_any _ _ _ _ _ _ _ _ _ HI.out.d HJ.out.d).mono ?_
        rintro e v ⟨rfl, rfl⟩
        by_cases h4 : p.ds = q.ds
        · have H4 := Lib.hid h4
          rw [decide_eq_true h4]
          clear h4
          go_wp2_with fail
          refine (eqI_any _ _ _ _ _ _ _ _ _ HI.out.f HJ.out.f).mono ?_
          rintro e v ⟨rfl, hb⟩
          have HV := Lib.hid (HB.out.trans (hb.mono (by simp; omega)))
          have c5 : v.cell? ⟨w.heap.size, 5, none⟩ = some (.slice Ac lc cc) := cells_below hb (by simp) (by simp; omega)
          have k5 : v.cell? ⟨w.heap.size + 1, 5, none⟩ = some (.slice Ac' lc' cc') := cells_below hb (by simp) (by simp)
          have HI2 := Lib.hid (HI.out.below hb)
          have HJ2 := Lib.hid (HJ.out.below hb)
          clear hb
          by_cases h5 : p.fs = q.fs
          · have H5 := Lib.hid h5
            rw [decide_eq_true h5]
            clear h5
            go_wp2_with fail
            refine (eqC_any _ _ _ _ _ _ _ _ _ HI2.out.c HJ2.out.c).mono ?_
            rintro e v2 ⟨rfl, hb⟩
            have HV2 := Lib.hid (HV.out.trans (hb.mono HV.out.size))
            clear hb
            have hr : decide (p.cs = q.cs) = Im.same p q := by
              by_cases h6 : p.cs = q.cs
              · rw [decide_eq_true h6, Im.same_yes (by rw [E0.out, E3.out]; exact H1.out) (by rw [E1.out, E4.out]; exact H2.out) (by rw [E2.out, E5.out]; exact H3.out) H4.out H5.out h6]
              · rw [decide_eq_false h6, Im.same_no (fun h => h6 h.2.2.2.2.2)]
            rw [hr]
            clear hr
            go_wp2
            go_ret
            exact ⟨rfl, HV2.out⟩
          · have HS := Lib.hid (Im.same_no (p := p) (q := q) (fun h => h5 h.2.2.2.2.1))
            rw [decide_eq_false h5]
            clear h5
            go_wp2
            go_ret
            exact ⟨ret_bool HS.out.symm, HV.out⟩
        · have HS := Lib.hid (Im.same_no (p := p) (q := q) (fun h => h4 h.2.2.2.1))
          rw [decide_eq_false h4]
          clear h4
          go_wp2
          go_ret
          exact ⟨ret_bool HS.out.symm, HB.out⟩
      · have h3' : (inp == inp') = false := by simpa using h3
        rw [Im.same_no (fun h => h3 (by rw [← E2.out, ← E5.out]; exact h.2.2.1))]
        clear h1 h2 h3
        go_enter Tryd.func15, Tryd.ntmps15
        go_wp2
        go_ret
        exact ⟨rfl, HB.out⟩
    · have h2' : (stk == stk') = false := by simpa using h2
      rw [Im.same_no (fun h => h2 (by rw [← E1.out, ← E4.out]; exact h.2.1))]
      clear h1 h2
      go_enter Tryd.func15, Tryd.ntmps15
      go_wp2
      go_ret
      exact ⟨rfl, HB.out⟩
  · have h1' : (mem == mem') = false := by simpa using h1
    rw [Im.same_no (fun h => h1 (by rw [← E0.out, ← E3.out]; exact h.1))]
    clear h1
    go_enter Tryd.func15, Tryd.ntmps15
    go_wp2
    go_ret
    exact ⟨rfl, HB.out⟩

set_option maxRecDepth 10000 in
set_option maxHeartbeats 3200000 in
theorem rsame_any (mem stk inp : Int) (Ad : Option Addr) (ld cd : Nat) (Af : Option Addr) (lf cf : Nat) (Ac : Option Addr) (lc cc : Nat) (mem' stk' inp' : Int) (Ad' : Option Addr) (ld' cd' : Nat) (Af' : Option Addr) (lf' cf' : Nat) (Ac' : Option Addr) (lc' cc' : Nat) (p q : Im.Pic) (w : World) (hi : ImAt w Ad ld cd Af lf cf Ac lc cc p) (hj : ImAt w Ad' ld' cd' Af' lf' cf' Ac' lc' cc' q) (e0 : p.mem = mem) (e1 : p.stk = stk) (e2 : p.inp = inp) (e3 : q.mem = mem') (e4 : q.stk = stk') (e5 : q.inp = inp') :
    Calls Tryd.prog 14 #[.agg #[.int .i64 mem, .int .i64 stk, .int .i64 inp, .slice Ad ld cd, .slice Af lf cf, .slice Ac lc cc], .agg #[.int .i64 mem', .int .i64 stk', .int .i64 inp', .slice Ad' ld' cd', .slice Af' lf' cf', .slice Ac' lc' cc']] w fun e w' => e = .returned (.bool (Im.same p q)) ∧ Below w.heap.size w w' := by
  have hB : Below w.heap.size w ((w.alloc (.cells #[.int .i64 mem, .int .i64 stk, .int .i64 inp, .slice Ad ld cd, .slice Af lf cf, .slice Ac lc cc] 26)).alloc (.cells #[.int .i64 mem', .int .i64 stk', .int .i64 inp', .slice Ad' ld' cd', .slice Af' lf' cf', .slice Ac' lc' cc'] 26)) := ((Below.refl _ _).alloc (Nat.le_refl _) _).alloc (by simp) _
  have HB := Lib.hid hB
  have HI := Lib.hid (hi.below hB)
  have HJ := Lib.hid (hj.below hB)
  have hm := Nat.le_trans hi.c.hle hi.c.hcap
  have hm' := Nat.le_trans hj.c.hle hj.c.hcap
  unfold maxLen at hm hm'
  have E0 := Lib.hid e0
  have E1 := Lib.hid e1
  have E2 := Lib.hid e2
  have E3 := Lib.hid e3
  have E4 := Lib.hid e4
  have E5 := Lib.hid e5
  have hcv1 := by_str (hi.d.below hB)
  have hcv2 := by_str (hj.d.below hB)
  have hss : (strOfNums p.ds = strOfNums q.ds) ↔ p.ds = q.ds := ⟨fun e => strOfNums_inj (fun x hx' => Im.mem_isB hi.d.isB hx') (fun x hx' => Im.mem_isB hj.d.isB hx') e, fun e => by rw [e]⟩
  have HSS := Lib.hid hss
  clear hi hj e0 e1 e2 e3 e4 e5 hB hss
  have hS : ∃ S L, strOfNums p.ds = S ∧ strOfNums q.ds = L := ⟨_, _, rfl, rfl⟩
  obtain ⟨S, L, hS, hL⟩ := hS
  rw [hS] at hcv1 HSS
  rw [hL] at hcv2 HSS
  clear hS hL
  by_cases h1 : mem = mem'
  · have h1' : (mem != mem') = false := by simpa using h1
    by_cases h2 : stk = stk'
    · have h2' : (stk != stk') = false := by simpa using h2
      by_cases h3 : inp = inp'
      · have h3' : (inp != inp') = false := by simpa using h3
        have H1 := Lib.hid h1
        have H2 := Lib.hid h2
        have H3 := Lib.hid h3
        clear h1 h2 h3
        by_cases h4 : p.ds = q.ds
        · have H4 := Lib.hid h4
          have hSL : S = L := HSS.out.2 h4
          subst hSL
          clear h4
          go_enter Tryd.func14, Tryd.ntmps14
          go_wp2_with fail
          refine (ints_any _ _ _ _ _ _ _ _ _ HI.out.f HJ.out.f).mono ?_
          rintro e v ⟨rfl, hb⟩
          have HV := Lib.hid (HB.out.trans (hb.mono (by simp; omega)))
          have c5 : v.cell? ⟨w.heap.size, 5, none⟩ = some (.slice Ac lc cc) := cells_below hb (by simp) (by simp; omega)
          have k5 : v.cell? ⟨w.heap.size + 1, 5, none⟩ = some (.slice Ac' lc' cc') := cells_below hb (by simp) (by simp)
          have HI2 := Lib.hid (HI.out.below hb)
          have HJ2 := Lib.hid (HJ.out.below hb)
          have hsz : w.heap.size + 1 < v.heap.size := by have := hb.size; simp at this; omega
          clear hb hcv1 hcv2
          by_cases h5 : p.fs = q.fs
          · have H5 := Lib.hid h5
            rw [decide_eq_true h5]
            clear h5
            have hpl := HI2.out.c.hlen
            have hql := HJ2.out.c.hlen
            by_cases hn : lc = lc'
            · subst hn
              have hn' : ((lc : Int) != (lc : Int)) = false := by simp
              have HPL := Lib.hid hpl
              have HQL := Lib.hid hql
              have C5 := Lib.hid c5
              have K5 := Lib.hid k5
              clear hpl hql
              go_wp2
              clear c5 k5
              go_loopw [5] (fun i wr => ∃ k : Nat, k ≤ lc ∧ i = .int .i64 k ∧ Below v.heap.size v wr ∧ ∀ j, j < k → p.cs.getD j Im.z5 = q.cs.getD j Im.z5) (fun i _ => lc - (intOf i).toNat)
              case atStart => exact ⟨0, by omega, rfl, Below.refl _ _, fun j hj => absurd hj (by omega)⟩
              case round =>
                obtain ⟨k, hk, rfl, hbr, hall⟩ := hrel
                have c5 := cells_below hbr C5.out (by omega)
                have k5 := cells_below hbr K5.out (by omega)
                have HR := Lib.hid hbr
                have HA := Lib.hid hall
                clear hbr hall
                by_cases hlt : k < lc
                · obtain ⟨b, o, rfl, _, hcx⟩ := (HI2.out.c.below HR.out).mem (by omega)
                  obtain ⟨b', o', rfl, _, hcy⟩ := (HJ2.out.c.below HR.out).mem (by omega)
                  have d0 := hcx k hlt
                  have d1 := hcy k hlt
                  have hki : (k : Int) < lc := by omega
                  have hz : ∃ z0 z1, p.cs.getD k Im.z5 = z0 ∧ q.cs.getD k Im.z5 = z1 := ⟨_, _, rfl, rfl⟩
                  obtain ⟨⟨p0, p1, p2, p3, p4⟩, ⟨r0, r1, r2, r3, r4⟩, e0, e1⟩ := hz
                  rw [e0] at d0
                  rw [e1] at d1
                  obtain ⟨x0, x1, x2, x3, x4⟩ := d0
                  obtain ⟨y0, y1, y2, y3, y4⟩ := d1
                  simp only at x0 x1 x2 x3 x4 y0 y1 y2 y3 y4
                  have F0 := Lib.hid e0
                  have F1 := Lib.hid e1
                  have hne := neq_ins p0 p1 p2 p3 p4 r0 r1 r2 r3 r4
                  clear e0 e1 hcx hcy
                  by_cases hz : (⟨p0, p1, p2, p3, p4⟩ : Im.I5) = ⟨r0, r1, r2, r3, r4⟩
                  · have hz' : Cd.same p0 p1 p2 p3 p4 r0 r1 r2 r3 r4 = true := by
                      simp only [Im.I5.mk.injEq] at hz
                      exact decide_eq_true hz
                    rw [hz'] at hne
                    clear hz'
                    go_wp2_with fail
                    go_quiet (fail)
                    go_wp2
                    go_roundw
                    case rel =>
                      refine ⟨k + 1, by omega, by go_num, below_drewN HR.out nq, fun j hj => ?_⟩
                      rcases Nat.lt_succ_iff_lt_or_eq.1 hj with h | h
                      · exact HA.out j h
                      · rw [h, F0.out, F1.out]; exact hz
                    case measure => simp [intOf]; omega
                  · have hz' : Cd.same p0 p1 p2 p3 p4 r0 r1 r2 r3 r4 = false := by
                      simp only [Im.I5.mk.injEq] at hz
                      exact decide_eq_false hz
                    rw [hz'] at hne
                    clear hz'
                    go_wp2_with fail
                    go_quiet (fail)
                    go_wp2
                    go_ret
                    refine ⟨ret_bool (Im.same_no ?_).symm, HV.out.trans ((below_drewN HR.out nq).mono HV.out.size)⟩
                    intro h
                    rw [← F0.out, ← F1.out, h.2.2.2.2.2] at hz
                    exact hz rfl
                · go_wp2
                  go_ret
                  refine ⟨ret_bool (Im.same_yes (by rw [E0.out, E3.out]; exact H1.out) (by rw [E1.out, E4.out]; exact H2.out) (by rw [E2.out, E5.out]; exact H3.out) H4.out H5.out ?_).symm, HV.out.trans (HR.out.mono HV.out.size)⟩
                  exact Im.list_eq (z := Im.z5) (by rw [HPL.out, HQL.out]) fun i hi => HA.out i (by have := HPL.out; omega)
            · have hn' : ((lc : Int) != (lc' : Int)) = true := by
                have : ¬ (lc : Int) = lc' := by omega
                simpa using this
              have HS := Lib.hid (Im.same_no (p := p) (q := q) (fun h => hn (by rw [← hpl, ← hql, h.2.2.2.2.2])))
              clear hpl hql
              go_wp2
              go_ret
              exact ⟨ret_bool HS.out.symm, HV.out⟩
          · have HS := Lib.hid (Im.same_no (p := p) (q := q) (fun h => h5 h.2.2.2.2.1))
            rw [decide_eq_false h5]
            clear h5
            go_wp2
            go_ret
            exact ⟨ret_bool HS.out.symm, HV.out⟩
        · have hSL : ¬ S = L := fun h => h4 (HSS.out.1 h)
          have hbe : (S.toList == L.toList) = false := by
            rw [Bool.eq_false_iff]
            exact fun h => hSL (bytes_of_beq h)
          rw [Im.same_no (fun h => h4 h.2.2.2.1)]
          clear h4 hSL
          go_enter Tryd.func14, Tryd.ntmps14
          go_wp2
          go_ret
          exact ⟨rfl, HB.out⟩
      · have h3' : (inp != inp') = true := by simpa using h3
        rw [Im.same_no (fun h => h3 (by rw [← E2.out, ← E5.out]; exact h.2.2.1))]
        clear h1 h2 h3
        go_enter Tryd.func14, Tryd.ntmps14
        go_wp2
        go_ret
        exact ⟨rfl, HB.out⟩
    · have h2' : (stk != stk') = true := by simpa using h2
      rw [Im.same_no (fun h => h2 (by rw [← E1.out, ← E4.out]; exact h.2.1))]
      clear h1 h2
      go_enter Tryd.func14, Tryd.ntmps14
      go_wp2
      go_ret
      exact ⟨rfl, HB.out⟩
  · have h1' : (mem != mem') = true := by simpa using h1
    rw [Im.same_no (fun h => h1 (by rw [← E0.out, ← E3.out]; exact h.1))]
    clear h1
    go_enter Tryd.func14, Tryd.ntmps14
    go_wp2
    go_ret
    exact ⟨rfl, HB.out⟩
end Go.Proofs.YtjadiijjahjjoaaDoor
