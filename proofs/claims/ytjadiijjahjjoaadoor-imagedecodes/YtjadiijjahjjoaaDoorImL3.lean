/-
  The walk of the law on flowing.
-/
import Derived.Test.YtjadiijjahjjoaaDoorImOp
import Derived.Test.YtjadiijjahjjoaaDoorImP2
namespace Go.Proofs.YtjadiijjahjjoaaDoor
open Go.RowKit

namespace Im
theorem fn_in {fs : List Int} {nc : Nat} {pl : Int} {n : Nat} (hP : Places fs nc) (hn : n < fs.length) (h1 : fs.getD n 0 ≤ pl) (h2 : pl < till fs nc n) : fn fs nc pl = n := by
  have h3 := hP.nonneg hn
  have h4 := hP.till_le hn
  unfold fn
  rw [if_pos ⟨by omega, by omega⟩, own_eq hP hn h1 h2]
theorem fn_out {fs : List Int} {nc : Nat} {pl : Int} (h : pl < 0 ∨ (nc : Int) ≤ pl) : fn fs nc pl = -1 := by
  unfold fn
  rw [if_neg (by omega)]
theorem fn_mono {fs : List Int} {nc : Nat} (hP : Places fs nc) (hl : 1 ≤ fs.length) {k : Nat} (h : k + 1 < nc) {n : Nat} (hn : n < fs.length) (h1 : fs.getD n 0 ≤ (k : Int) + 1) (h2 : (k : Int) + 1 < till fs nc n) : ∃ n' : Nat, fn fs nc k = n' ∧ n' ≤ n := by
  obtain ⟨n', g1, g2, g3⟩ := own_ex hP hl (p := (k : Int)) (by omega) (by omega)
  refine ⟨n', fn_in hP g1 g2 g3, ?_⟩
  rcases Nat.lt_or_ge n n' with h3 | h3
  · have := hP.apart g1 h3
    omega
  · exact h3
end Im

set_option maxRecDepth 10000 in
set_option maxHeartbeats 8000000 in
theorem flows_main (mem stk inp : Int) (Ad : Option Addr) (ld cd : Nat) (Af : Option Addr) (lf cf : Nat) (Ac : Option Addr) (lc cc : Nat) (p : Im.Pic) (w : World) (ho : Ops w) (hi : ImAt w Ad ld cd Af lf cf Ac lc cc p) (e0 : p.mem = mem) (e1 : p.stk = stk) (e2 : p.inp = inp) (hfew : fewB ld lf lc = true) (hck : Im.chk p = 0) :
    Calls Tryd.prog 7 #[.agg #[.int .i64 mem, .int .i64 stk, .int .i64 inp, .slice Ad ld cd, .slice Af lf cf, .slice Ac lc cc]] w fun e w' => e = .returned (.bool true) ∧ Below w.heap.size w w' := by
  obtain ⟨hCn, hbad, hfl⟩ := Im.chk_zero hck
  have hfL := hi.f.hlen
  have hcL := hi.c.hlen
  have hP : Im.Places p.fs lc := by rw [← hcL]; exact hCn.2.2.2.2.2.2
  have hlf1 : 1 ≤ lf ∧ lf ≤ 16 := by rw [← hfL]; exact hCn.2.2.2.2.1
  have hlc1 : 1 ≤ lc ∧ lc ≤ 256 := by rw [← hcL]; exact hCn.2.2.2.2.2.1
  have hstr : ¬ Im.stray p.fs p.cs < p.cs.length := of_decide_eq_false hfl
  have hok := Im.stray_ok hstr
  have hp := ho.pos
  have HO := Lib.hid ho
  have HIM := Lib.hid hi
  have hd1 := Nat.le_trans hi.d.hle hi.d.hcap
  have hf1 := Nat.le_trans hi.f.hle hi.f.hcap
  have hc1 := Nat.le_trans hi.c.hle hi.c.hcap
  have HFEW : ∀ W : World, Calls Tryd.prog 10 #[.agg #[.int .i64 mem, .int .i64 stk, .int .i64 inp, .slice Ad ld cd, .slice Af lf cf, .slice Ac lc cc]] W fun e w' => e = .returned (.bool true) ∧ Below W.heap.size W w' := fun W => by
    have := few_any mem stk inp Ad ld cd Af lf cf Ac lc cc W hd1 hf1 hc1
    rwa [hfew] at this
  have HENC : ∀ W : World, Ops W → ImAt W Ad ld cd Af lf cf Ac lc cc p → Calls Tryd.prog 11 #[.agg #[.int .i64 mem, .int .i64 stk, .int .i64 inp, .slice Ad ld cd, .slice Af lf cf, .slice Ac lc cc]] W fun e w' => ∃ A n cap, e = .returned (.tuple #[.slice A n cap, .int .i64 0]) ∧ Below W.heap.size W w' := fun W h1 h2 => by
    refine (encode_any mem stk inp Ad ld cd Af lf cf Ac lc cc p W h1 h2 e0 e1 e2).mono ?_
    rintro e w' ⟨A, n, cap, rfl, _, hb⟩
    rw [hck]
    exact ⟨A, n, cap, rfl, hb⟩
  have HFUN : ∀ (pl : Int) (W : World), InSl W Af lf cf p.fs → Calls Tryd.prog 17 #[.agg #[.int .i64 mem, .int .i64 stk, .int .i64 inp, .slice Ad ld cd, .slice Af lf cf, .slice Ac lc cc], .int .i64 pl] W fun e w' => e = .returned (.int .i64 (Im.fn p.fs lc pl)) ∧ Below W.heap.size W w' := fun pl W h => fun_any mem stk inp Ad ld cd Af lf cf Ac lc cc p.fs pl W h hP hlf1.1 hc1
  have HF := Lib.hid HFUN
  have HFW := Lib.hid HFEW
  have HE := Lib.hid HENC
  have HPP := Lib.hid hP
  have HOK := Lib.hid hok
  have HFL := Lib.hid hfL
  have HCL := Lib.hid hcL
  obtain ⟨hlf1, hlf2⟩ := hlf1
  obtain ⟨hlc1, hlc2⟩ := hlc1
  obtain ⟨bc, oc, rfl, hbc, hcc⟩ := hi.c.mem (by omega)
  obtain ⟨bf, of, rfl, hbf, hcf⟩ := hi.f.mem (by omega)
  have HCC := Lib.hid hcc
  have HCF := Lib.hid hcf
  have HBC := Lib.hid hbc
  have HBF := Lib.hid hbf
  have H0 := Lib.hid (Below.box w (.cells #[.int .i64 mem, .int .i64 stk, .int .i64 inp, .slice Ad ld cd, .slice (some ⟨bf, of, none⟩) lf cf, .slice (some ⟨bc, oc, none⟩) lc cc] 26))
  have b0 : (w.alloc (.cells #[.int .i64 mem, .int .i64 stk, .int .i64 inp, .slice Ad ld cd, .slice (some ⟨bf, of, none⟩) lf cf, .slice (some ⟨bc, oc, none⟩) lc cc] 26)).cell? ⟨w.heap.size, 0, none⟩ = some (.int .i64 mem) := by simp
  have b1 : (w.alloc (.cells #[.int .i64 mem, .int .i64 stk, .int .i64 inp, .slice Ad ld cd, .slice (some ⟨bf, of, none⟩) lf cf, .slice (some ⟨bc, oc, none⟩) lc cc] 26)).cell? ⟨w.heap.size, 1, none⟩ = some (.int .i64 stk) := by simp
  have b2 : (w.alloc (.cells #[.int .i64 mem, .int .i64 stk, .int .i64 inp, .slice Ad ld cd, .slice (some ⟨bf, of, none⟩) lf cf, .slice (some ⟨bc, oc, none⟩) lc cc] 26)).cell? ⟨w.heap.size, 2, none⟩ = some (.int .i64 inp) := by simp
  have b3 : (w.alloc (.cells #[.int .i64 mem, .int .i64 stk, .int .i64 inp, .slice Ad ld cd, .slice (some ⟨bf, of, none⟩) lf cf, .slice (some ⟨bc, oc, none⟩) lc cc] 26)).cell? ⟨w.heap.size, 3, none⟩ = some (.slice Ad ld cd) := by simp
  have b4 : (w.alloc (.cells #[.int .i64 mem, .int .i64 stk, .int .i64 inp, .slice Ad ld cd, .slice (some ⟨bf, of, none⟩) lf cf, .slice (some ⟨bc, oc, none⟩) lc cc] 26)).cell? ⟨w.heap.size, 4, none⟩ = some (.slice (some ⟨bf, of, none⟩) lf cf) := by simp
  have b5 : (w.alloc (.cells #[.int .i64 mem, .int .i64 stk, .int .i64 inp, .slice Ad ld cd, .slice (some ⟨bf, of, none⟩) lf cf, .slice (some ⟨bc, oc, none⟩) lc cc] 26)).cell? ⟨w.heap.size, 5, none⟩ = some (.slice (some ⟨bc, oc, none⟩) lc cc) := by simp
  have G0 := Lib.hid b0
  have G1 := Lib.hid b1
  have G2 := Lib.hid b2
  have G3 := Lib.hid b3
  have G4 := Lib.hid b4
  have G5 := Lib.hid b5
  clear b0 b1 b2 b3 b4 b5 hcc hcf hbc hbf HFUN HFEW HENC hP hok hfL hcL hstr hfl hbad hCn hi ho hck hfew e0 e1 e2 hd1 hf1 hc1
  go_enter Tryd.func7, Tryd.ntmps7
  go_wp2_with fail
  refine (awake_any _ (HO.out.below H0.out hp)).mono ?_
  rintro e v ⟨rfl, hb⟩
  have hbv : Below (w.heap.size + 1) (w.alloc (.cells #[.int .i64 mem, .int .i64 stk, .int .i64 inp, .slice Ad ld cd, .slice (some ⟨bf, of, none⟩) lf cf, .slice (some ⟨bc, oc, none⟩) lc cc] 26)) v := hb.mono (by simp)
  have c0 := cells_below hbv G0.out (by simp)
  have c1 := cells_below hbv G1.out (by simp)
  have c2 := cells_below hbv G2.out (by simp)
  have c3 := cells_below hbv G3.out (by simp)
  have c4 := cells_below hbv G4.out (by simp)
  have c5 := cells_below hbv G5.out (by simp)
  have HV := Lib.hid hbv
  clear hb hbv
  go_wp2_with fail
  refine (HFW.out _).mono ?_
  rintro e v1 ⟨rfl, hb⟩
  have hbv : Below (w.heap.size + 1) (w.alloc (.cells #[.int .i64 mem, .int .i64 stk, .int .i64 inp, .slice Ad ld cd, .slice (some ⟨bf, of, none⟩) lf cf, .slice (some ⟨bc, oc, none⟩) lc cc] 26)) v1 := HV.out.trans (hb.mono (by have := HV.out.size; simp at this; omega))
  have c0 := cells_below hbv G0.out (by simp)
  have c1 := cells_below hbv G1.out (by simp)
  have c2 := cells_below hbv G2.out (by simp)
  have c3 := cells_below hbv G3.out (by simp)
  have c4 := cells_below hbv G4.out (by simp)
  have c5 := cells_below hbv G5.out (by simp)
  have HV := Lib.hid hbv
  clear hb hbv
  go_wp2_with fail
  refine (HE.out _ (HO.out.below (H0.out.trans (HV.out.mono (by omega))) hp) ((HIM.out.below H0.out).below (HV.out.mono (by simp)))).mono ?_
  rintro e v2 ⟨A, n, cap, rfl, hb⟩
  have hbv : Below (w.heap.size + 1) (w.alloc (.cells #[.int .i64 mem, .int .i64 stk, .int .i64 inp, .slice Ad ld cd, .slice (some ⟨bf, of, none⟩) lf cf, .slice (some ⟨bc, oc, none⟩) lc cc] 26)) v2 := HV.out.trans (hb.mono (by have := HV.out.size; simp at this; omega))
  have c5 := cells_below hbv G5.out (by simp)
  have HV := Lib.hid hbv
  clear hb hbv c0 c1 c2 c3 c4
  go_wp2
  go_loopw [5] (fun i wr => ∃ k : Nat, k ≤ lc ∧ i = .int .i64 k ∧ Below (w.heap.size + 1) (w.alloc (.cells #[.int .i64 mem, .int .i64 stk, .int .i64 inp, .slice Ad ld cd, .slice (some ⟨bf, of, none⟩) lf cf, .slice (some ⟨bc, oc, none⟩) lc cc] 26)) wr) (fun i _ => lc - (intOf i).toNat)
  case atStart => exact ⟨0, by omega, rfl, HV.out⟩
  case round =>
    obtain ⟨k, hk, rfl, hbr⟩ := hrel
    have c0 := cells_below hbr G0.out (by simp)
    have c1 := cells_below hbr G1.out (by simp)
    have c2 := cells_below hbr G2.out (by simp)
    have c3 := cells_below hbr G3.out (by simp)
    have c4 := cells_below hbr G4.out (by simp)
    have c5 := cells_below hbr G5.out (by simp)
    have hszw : w.heap.size < wr.heap.size := by have := hbr.size; simp at this; omega
    have HR := Lib.hid hbr
    clear hbr HV
    by_cases hlt : k < lc
    · have hki : (k : Int) < lc := by omega
      have hins : InsAt wr bc (oc + k * 5) (p.cs.getD k Im.z5) := ((HCC.out k hlt).keep fun o => H0.out.cell (p := ⟨bc, o, none⟩) HBC.out).keep fun o => HR.out.cell (p := ⟨bc, o, none⟩) (Nat.lt_succ_of_lt HBC.out)
      have hrng := HIM.out.c.rng k
      have hbcn : bc ≠ wr.heap.size := by have h1 := HBC.out; omega
      have hI5 : ∃ i, p.cs.getD k Im.z5 = i := ⟨_, rfl⟩
      obtain ⟨⟨op, a, b, c, m⟩, hei⟩ := hI5
      rw [hei] at hins hrng
      obtain ⟨x0, x1, x2, x3, x4⟩ := hins
      simp only at x0 x1 x2 x3 x4 hrng
      obtain ⟨nn, hn0, hn1, hn2⟩ := Im.own_ex HPP.out (by have := HFL.out; omega) (p := (k : Int)) (by omega) hki
      have hnl : nn < lf := by have := HFL.out; omega
      have hfk : Im.fn p.fs lc k = nn := Im.fn_in HPP.out hn0 hn1 hn2
      have hokk := HOK.out k (by have := HCL.out; omega)
      rw [Im.okB_eq (by rw [HCL.out]; exact HPP.out) hn0 hn1 (by rw [HCL.out]; exact hn2) hei, HCL.out, HFL.out] at hokk
      simp only [Bool.and_eq_true, Bool.not_eq_true', Bool.and_eq_false_iff] at hokk
      obtain ⟨hld, hgg⟩ := hokk
      have htl := HPP.out.till_le hn0
      have hfn0 := HPP.out.nonneg hn0
      have hfg : Cd.goes op = true → Im.fn p.fs lc ((k : Int) + 1) = nn := fun hgo => by
        have h2 : ¬ (k : Int) + 1 = Im.till p.fs lc nn := by
          rcases hgg with h | h
          · rw [hgo] at h; cases h
          · exact of_decide_eq_false h
        exact Im.fn_in HPP.out hn0 (by omega) (by omega)
      have hop : ((op = 21 ∨ op = 22) ∧ 0 ≤ m ∧ m ≤ 255 ∧ Im.fn p.fs lc m = nn) ∨ (op = 23 ∧ 0 ≤ m ∧ m < lf) ∨ (op ≠ 21 ∧ op ≠ 22 ∧ op ≠ 23) := by
        unfold Im.leads at hld
        by_cases hj : op = 21 ∨ op = 22
        · rw [if_pos hj] at hld
          simp only [Bool.and_eq_true, decide_eq_true_eq] at hld
          exact .inl ⟨hj, by omega, by omega, Im.fn_in HPP.out hn0 hld.1 hld.2⟩
        · rw [if_neg hj] at hld
          by_cases h23 : op = 23
          · rw [if_pos h23] at hld
            exact .inr (.inl ⟨h23, by omega, of_decide_eq_true hld⟩)
          · exact .inr (.inr ⟨fun h => hj (.inl h), fun h => hj (.inr h), h23⟩)
      have hcell : wr.cell? ⟨bf, of + nn, none⟩ = some (.int .i64 (p.fs.getD nn 0)) := cells_below HR.out (cells_below H0.out (HCF.out nn hnl) HBF.out) (Nat.lt_succ_of_lt HBF.out)
      have hprev : ∀ j : Nat, k = j + 1 → ∃ n' : Nat, Im.fn p.fs lc (j : Int) = n' ∧ n' ≤ nn := fun j hj => Im.fn_mono HPP.out (by have := HFL.out; omega) (by omega) hn0 (by omega) (by omega)
      have HPREV := Lib.hid hprev
      have HFG := Lib.hid hfg
      have HCELL := Lib.hid hcell
      have hz : ∃ z, p.fs.getD nn 0 = z := ⟨_, rfl⟩
      obtain ⟨z, hz⟩ := hz
      rw [hz] at hn1 hcell
      have HZ := Lib.hid hz
      have HI := Lib.hid ((HIM.out.f.below H0.out).below (HR.out.mono (by simp)) |>.below (Below.box wr (.cells #[.int .i64 op, .int .i64 a, .int .i64 b, .int .i64 c, .int .u64 m] 43)))
      have HEI := Lib.hid hei
      clear hld hgg hprev hfg hei hz hcell
      go_wp2_with fail
      refine (HF.out _ _ HI.out).mono ?_
      rintro e v ⟨rfl, hbv⟩
      rw [hfk]
      have y0 : v.cell? ⟨wr.heap.size, 0, none⟩ = some (.int .i64 op) := cells_below hbv (by simp) (by simp)
      have y4 : v.cell? ⟨wr.heap.size, 4, none⟩ = some (.int .u64 m) := cells_below hbv (by simp) (by simp)
      have hbv' : Below wr.heap.size wr v := (Below.box _ _).trans (hbv.mono (by simp))
      replace c0 := cells_below hbv' c0 hszw
      replace c1 := cells_below hbv' c1 hszw
      replace c2 := cells_below hbv' c2 hszw
      replace c3 := cells_below hbv' c3 hszw
      replace c4 := cells_below hbv' c4 hszw
      replace c5 := cells_below hbv' c5 hszw
      have d0 : v.cell? ⟨bf, of + nn, none⟩ = some (.int .i64 z) := by
        have := cells_below hbv' HCELL.out (by have := HBF.out; omega)
        rwa [HZ.out] at this
      replace HI := Lib.hid (HI.out.below hbv)
      have HV := Lib.hid (HR.out.trans (hbv'.mono (by omega)))
      have LT : Hid (w.heap.size < v.heap.size) := Nat.lt_of_lt_of_le hszw hbv'.size
      have LT2 : Hid (wr.heap.size < v.heap.size) := by have := hbv.size; simp at this; exact this
      have hnlI : (nn : Int) < lf := by omega
      clear hbv hbv' x0 x1 x2 x3 x4 HR
      have hk0 : k = 0 ∨ ∃ j, k = j + 1 := by
        match k with
        | 0 => exact .inl rfl
        | j + 1 => exact .inr ⟨j, rfl⟩
      rcases hk0 with hk0 | ⟨j, hj⟩
      · subst hk0
        replace HFG : Hid (Cd.goes op = true → Im.fn p.fs lc 1 = nn) := fun h => by
          have := HFG.out h
          simpa using this
        go_wp2_with fail
        rcases hop with ⟨hj, hm1, hm2, hfm⟩ | ⟨hj1, hm1, hm2⟩ | ⟨hj1, hj2, hj3⟩
        · have hw : IntKind.i64.wrap m = m := by rw [IntKind.wrap_i64]; omega
          have hm3 : ¬ (255 : Int) < m := by omega
          rcases hj with hj | hj
          · subst hj
            have hgo : Cd.goes 21 = false := by decide +kernel
            refine (goes_any _ _).mono ?_
            rintro e w9 ⟨rfl, rfl⟩
            rw [hgo]
            clear hgo
            go_wp2_with fail
            refine (HF.out _ _ HI.out).mono ?_
            rintro e v9 ⟨rfl, hbv⟩
            have l1 : w.heap.size < v.heap.size := LT.out
            have l2 : wr.heap.size < v.heap.size := LT2.out
            replace c0 := cells_below hbv c0 l1
            replace c1 := cells_below hbv c1 l1
            replace c2 := cells_below hbv c2 l1
            replace c3 := cells_below hbv c3 l1
            replace c4 := cells_below hbv c4 l1
            replace c5 := cells_below hbv c5 l1
            replace y0 := cells_below hbv y0 l2
            replace y4 := cells_below hbv y4 l2
            replace HI := Lib.hid (HI.out.below hbv)
            replace HV := Lib.hid (HV.out.trans (hbv.mono (by omega)))
            replace LT := Lib.hid (Nat.lt_of_lt_of_le l1 hbv.size)
            replace LT2 := Lib.hid (Nat.lt_of_lt_of_le l2 hbv.size)
            clear hbv l1 l2
            rw [hfm]
            clear hfm
            go_wp2
            go_roundw
            case rel => exact ⟨0 + 1, by omega, by go_num, HV.out⟩
            case measure => simp [intOf]; omega
          · subst hj
            have hgo : Cd.goes 22 = true := by decide +kernel
            have hfg := HFG.out hgo
            refine (goes_any _ _).mono ?_
            rintro e w9 ⟨rfl, rfl⟩
            rw [hgo]
            clear hgo
            go_wp2_with fail
            refine (HF.out _ _ HI.out).mono ?_
            rintro e v8 ⟨rfl, hbv⟩
            have l1 : w.heap.size < v.heap.size := LT.out
            have l2 : wr.heap.size < v.heap.size := LT2.out
            replace c0 := cells_below hbv c0 l1
            replace c1 := cells_below hbv c1 l1
            replace c2 := cells_below hbv c2 l1
            replace c3 := cells_below hbv c3 l1
            replace c4 := cells_below hbv c4 l1
            replace c5 := cells_below hbv c5 l1
            replace y0 := cells_below hbv y0 l2
            replace y4 := cells_below hbv y4 l2
            replace HI := Lib.hid (HI.out.below hbv)
            replace HV := Lib.hid (HV.out.trans (hbv.mono (by omega)))
            replace LT := Lib.hid (Nat.lt_of_lt_of_le l1 hbv.size)
            replace LT2 := Lib.hid (Nat.lt_of_lt_of_le l2 hbv.size)
            clear hbv l1 l2
            rw [hfg]
            clear hfg
            go_wp2_with fail
            refine (HF.out _ _ HI.out).mono ?_
            rintro e v9 ⟨rfl, hbv⟩
            have l1 : w.heap.size < v8.heap.size := LT.out
            have l2 : wr.heap.size < v8.heap.size := LT2.out
            replace c0 := cells_below hbv c0 l1
            replace c1 := cells_below hbv c1 l1
            replace c2 := cells_below hbv c2 l1
            replace c3 := cells_below hbv c3 l1
            replace c4 := cells_below hbv c4 l1
            replace c5 := cells_below hbv c5 l1
            replace y0 := cells_below hbv y0 l2
            replace y4 := cells_below hbv y4 l2
            replace HI := Lib.hid (HI.out.below hbv)
            replace HV := Lib.hid (HV.out.trans (hbv.mono (by omega)))
            replace LT := Lib.hid (Nat.lt_of_lt_of_le l1 hbv.size)
            replace LT2 := Lib.hid (Nat.lt_of_lt_of_le l2 hbv.size)
            clear hbv l1 l2
            rw [hfm]
            clear hfm
            go_wp2
            go_roundw
            case rel => exact ⟨0 + 1, by omega, by go_num, HV.out⟩
            case measure => simp [intOf]; omega
        · subst hj1
          have hw : IntKind.i64.wrap m = m := by rw [IntKind.wrap_i64]; omega
          have hm3 : ¬ (15 : Int) < m := by omega
          have hm4 : m < (lf : Int) := hm2
          have hgo : Cd.goes 23 = true := by decide +kernel
          have hfg := HFG.out hgo
          refine (goes_any _ _).mono ?_
          rintro e w9 ⟨rfl, rfl⟩
          rw [hgo]
          clear hgo
          go_wp2_with fail
          refine (HF.out _ _ HI.out).mono ?_
          rintro e v8 ⟨rfl, hbv⟩
          have l1 : w.heap.size < v.heap.size := LT.out
          have l2 : wr.heap.size < v.heap.size := LT2.out
          replace c0 := cells_below hbv c0 l1
          replace c1 := cells_below hbv c1 l1
          replace c2 := cells_below hbv c2 l1
          replace c3 := cells_below hbv c3 l1
          replace c4 := cells_below hbv c4 l1
          replace c5 := cells_below hbv c5 l1
          replace y0 := cells_below hbv y0 l2
          replace y4 := cells_below hbv y4 l2
          replace HI := Lib.hid (HI.out.below hbv)
          replace HV := Lib.hid (HV.out.trans (hbv.mono (by omega)))
          replace LT := Lib.hid (Nat.lt_of_lt_of_le l1 hbv.size)
          replace LT2 := Lib.hid (Nat.lt_of_lt_of_le l2 hbv.size)
          clear hbv l1 l2
          rw [hfg]
          clear hfg
          go_wp2
          go_roundw
          case rel => exact ⟨0 + 1, by omega, by go_num, HV.out⟩
          case measure => simp [intOf]; omega
        · have hj1' : (op == 21) = false := by simpa using hj1
          have hj2' : (op == 22) = false := by simpa using hj2
          have hj3' : (op == 23) = false := by simpa using hj3
          refine (goes_any _ _).mono ?_
          rintro e w9 ⟨rfl, rfl⟩
          by_cases hgo : Cd.goes op = true
          · have hfg := HFG.out hgo
            rw [hgo]
            clear hgo
            go_wp2_with fail
            refine (HF.out _ _ HI.out).mono ?_
            rintro e v8 ⟨rfl, hbv⟩
            have l1 : w.heap.size < v.heap.size := LT.out
            have l2 : wr.heap.size < v.heap.size := LT2.out
            replace c0 := cells_below hbv c0 l1
            replace c1 := cells_below hbv c1 l1
            replace c2 := cells_below hbv c2 l1
            replace c3 := cells_below hbv c3 l1
            replace c4 := cells_below hbv c4 l1
            replace c5 := cells_below hbv c5 l1
            replace y0 := cells_below hbv y0 l2
            replace y4 := cells_below hbv y4 l2
            replace HI := Lib.hid (HI.out.below hbv)
            replace HV := Lib.hid (HV.out.trans (hbv.mono (by omega)))
            replace LT := Lib.hid (Nat.lt_of_lt_of_le l1 hbv.size)
            replace LT2 := Lib.hid (Nat.lt_of_lt_of_le l2 hbv.size)
            clear hbv l1 l2
            rw [hfg]
            clear hfg
            go_wp2
            go_roundw
            case rel => exact ⟨0 + 1, by omega, by go_num, HV.out⟩
            case measure => simp [intOf]; omega
          · have hgo' : Cd.goes op = false := by simpa using hgo
            rw [hgo']
            clear hgo hgo'
            go_wp2
            go_roundw
            case rel => exact ⟨0 + 1, by omega, by go_num, HV.out⟩
            case measure => simp [intOf]; omega
      · subst hj
        obtain ⟨n', hfn', hle'⟩ := HPREV.out j rfl
        replace HFG : Hid (Cd.goes op = true → Im.fn p.fs lc ((j : Int) + 1 + 1) = nn) := fun h => by
          have := HFG.out h
          rwa [show ((j + 1 : Nat) : Int) + 1 = (j : Int) + 1 + 1 by omega] at this
        go_wp2_with fail
        refine (HF.out _ _ HI.out).mono ?_
        rintro e v7 ⟨rfl, hbv⟩
        have l1 : w.heap.size < v.heap.size := LT.out
        have l2 : wr.heap.size < v.heap.size := LT2.out
        replace c0 := cells_below hbv c0 l1
        replace c1 := cells_below hbv c1 l1
        replace c2 := cells_below hbv c2 l1
        replace c3 := cells_below hbv c3 l1
        replace c4 := cells_below hbv c4 l1
        replace c5 := cells_below hbv c5 l1
        replace y0 := cells_below hbv y0 l2
        replace y4 := cells_below hbv y4 l2
        replace HI := Lib.hid (HI.out.below hbv)
        replace HV := Lib.hid (HV.out.trans (hbv.mono (by omega)))
        replace LT := Lib.hid (Nat.lt_of_lt_of_le l1 hbv.size)
        replace LT2 := Lib.hid (Nat.lt_of_lt_of_le l2 hbv.size)
        clear hbv l1 l2 d0
        rw [hfn']
        go_wp2_with fail
        rcases hop with ⟨hj, hm1, hm2, hfm⟩ | ⟨hj1, hm1, hm2⟩ | ⟨hj1, hj2, hj3⟩
        · have hw : IntKind.i64.wrap m = m := by rw [IntKind.wrap_i64]; omega
          have hm3 : ¬ (255 : Int) < m := by omega
          rcases hj with hj | hj
          · subst hj
            have hgo : Cd.goes 21 = false := by decide +kernel
            refine (goes_any _ _).mono ?_
            rintro e w9 ⟨rfl, rfl⟩
            rw [hgo]
            clear hgo
            go_wp2_with fail
            refine (HF.out _ _ HI.out).mono ?_
            rintro e v9 ⟨rfl, hbv⟩
            have l1 : w.heap.size < v7.heap.size := LT.out
            have l2 : wr.heap.size < v7.heap.size := LT2.out
            replace c0 := cells_below hbv c0 l1
            replace c1 := cells_below hbv c1 l1
            replace c2 := cells_below hbv c2 l1
            replace c3 := cells_below hbv c3 l1
            replace c4 := cells_below hbv c4 l1
            replace c5 := cells_below hbv c5 l1
            replace y0 := cells_below hbv y0 l2
            replace y4 := cells_below hbv y4 l2
            replace HI := Lib.hid (HI.out.below hbv)
            replace HV := Lib.hid (HV.out.trans (hbv.mono (by omega)))
            replace LT := Lib.hid (Nat.lt_of_lt_of_le l1 hbv.size)
            replace LT2 := Lib.hid (Nat.lt_of_lt_of_le l2 hbv.size)
            clear hbv l1 l2
            rw [hfm]
            clear hfm
            go_wp2
            go_roundw
            case rel => exact ⟨j + 1 + 1, by omega, by go_num, HV.out⟩
            case measure => simp [intOf]; omega
          · subst hj
            have hgo : Cd.goes 22 = true := by decide +kernel
            have hfg := HFG.out hgo
            refine (goes_any _ _).mono ?_
            rintro e w9 ⟨rfl, rfl⟩
            rw [hgo]
            clear hgo
            go_wp2_with fail
            refine (HF.out _ _ HI.out).mono ?_
            rintro e v8 ⟨rfl, hbv⟩
            have l1 : w.heap.size < v7.heap.size := LT.out
            have l2 : wr.heap.size < v7.heap.size := LT2.out
            replace c0 := cells_below hbv c0 l1
            replace c1 := cells_below hbv c1 l1
            replace c2 := cells_below hbv c2 l1
            replace c3 := cells_below hbv c3 l1
            replace c4 := cells_below hbv c4 l1
            replace c5 := cells_below hbv c5 l1
            replace y0 := cells_below hbv y0 l2
            replace y4 := cells_below hbv y4 l2
            replace HI := Lib.hid (HI.out.below hbv)
            replace HV := Lib.hid (HV.out.trans (hbv.mono (by omega)))
            replace LT := Lib.hid (Nat.lt_of_lt_of_le l1 hbv.size)
            replace LT2 := Lib.hid (Nat.lt_of_lt_of_le l2 hbv.size)
            clear hbv l1 l2
            rw [hfg]
            clear hfg
            go_wp2_with fail
            refine (HF.out _ _ HI.out).mono ?_
            rintro e v9 ⟨rfl, hbv⟩
            have l1 : w.heap.size < v8.heap.size := LT.out
            have l2 : wr.heap.size < v8.heap.size := LT2.out
            replace c0 := cells_below hbv c0 l1
            replace c1 := cells_below hbv c1 l1
            replace c2 := cells_below hbv c2 l1
            replace c3 := cells_below hbv c3 l1
            replace c4 := cells_below hbv c4 l1
            replace c5 := cells_below hbv c5 l1
            replace y0 := cells_below hbv y0 l2
            replace y4 := cells_below hbv y4 l2
            replace HI := Lib.hid (HI.out.below hbv)
            replace HV := Lib.hid (HV.out.trans (hbv.mono (by omega)))
            replace LT := Lib.hid (Nat.lt_of_lt_of_le l1 hbv.size)
            replace LT2 := Lib.hid (Nat.lt_of_lt_of_le l2 hbv.size)
            clear hbv l1 l2
            rw [hfm]
            clear hfm
            go_wp2
            go_roundw
            case rel => exact ⟨j + 1 + 1, by omega, by go_num, HV.out⟩
            case measure => simp [intOf]; omega
        · subst hj1
          have hw : IntKind.i64.wrap m = m := by rw [IntKind.wrap_i64]; omega
          have hm3 : ¬ (15 : Int) < m := by omega
          have hm4 : m < (lf : Int) := hm2
          have hgo : Cd.goes 23 = true := by decide +kernel
          have hfg := HFG.out hgo
          refine (goes_any _ _).mono ?_
          rintro e w9 ⟨rfl, rfl⟩
          rw [hgo]
          clear hgo
          go_wp2_with fail
          refine (HF.out _ _ HI.out).mono ?_
          rintro e v8 ⟨rfl, hbv⟩
          have l1 : w.heap.size < v7.heap.size := LT.out
          have l2 : wr.heap.size < v7.heap.size := LT2.out
          replace c0 := cells_below hbv c0 l1
          replace c1 := cells_below hbv c1 l1
          replace c2 := cells_below hbv c2 l1
          replace c3 := cells_below hbv c3 l1
          replace c4 := cells_below hbv c4 l1
          replace c5 := cells_below hbv c5 l1
          replace y0 := cells_below hbv y0 l2
          replace y4 := cells_below hbv y4 l2
          replace HI := Lib.hid (HI.out.below hbv)
          replace HV := Lib.hid (HV.out.trans (hbv.mono (by omega)))
          replace LT := Lib.hid (Nat.lt_of_lt_of_le l1 hbv.size)
          replace LT2 := Lib.hid (Nat.lt_of_lt_of_le l2 hbv.size)
          clear hbv l1 l2
          rw [hfg]
          clear hfg
          go_wp2
          go_roundw
          case rel => exact ⟨j + 1 + 1, by omega, by go_num, HV.out⟩
          case measure => simp [intOf]; omega
        · have hj1' : (op == 21) = false := by simpa using hj1
          have hj2' : (op == 22) = false := by simpa using hj2
          have hj3' : (op == 23) = false := by simpa using hj3
          refine (goes_any _ _).mono ?_
          rintro e w9 ⟨rfl, rfl⟩
          by_cases hgo : Cd.goes op = true
          · have hfg := HFG.out hgo
            rw [hgo]
            clear hgo
            go_wp2_with fail
            refine (HF.out _ _ HI.out).mono ?_
            rintro e v8 ⟨rfl, hbv⟩
            have l1 : w.heap.size < v7.heap.size := LT.out
            have l2 : wr.heap.size < v7.heap.size := LT2.out
            replace c0 := cells_below hbv c0 l1
            replace c1 := cells_below hbv c1 l1
            replace c2 := cells_below hbv c2 l1
            replace c3 := cells_below hbv c3 l1
            replace c4 := cells_below hbv c4 l1
            replace c5 := cells_below hbv c5 l1
            replace y0 := cells_below hbv y0 l2
            replace y4 := cells_below hbv y4 l2
            replace HI := Lib.hid (HI.out.below hbv)
            replace HV := Lib.hid (HV.out.trans (hbv.mono (by omega)))
            replace LT := Lib.hid (Nat.lt_of_lt_of_le l1 hbv.size)
            replace LT2 := Lib.hid (Nat.lt_of_lt_of_le l2 hbv.size)
            clear hbv l1 l2
            rw [hfg]
            clear hfg
            go_wp2
            go_roundw
            case rel => exact ⟨j + 1 + 1, by omega, by go_num, HV.out⟩
            case measure => simp [intOf]; omega
          · have hgo' : Cd.goes op = false := by simpa using hgo
            rw [hgo']
            clear hgo hgo'
            go_wp2
            go_roundw
            case rel => exact ⟨j + 1 + 1, by omega, by go_num, HV.out⟩
            case measure => simp [intOf]; omega
    · have hkl : k = lc := by omega
      subst hkl
      have hA1 : Im.fn p.fs k (-1) = -1 := Im.fn_out (.inl (by omega))
      have hA2 : Im.fn p.fs k (k : Int) = -1 := Im.fn_out (.inr (by omega))
      have HI := Lib.hid ((HIM.out.f.below H0.out).below (HR.out.mono (by simp)))
      go_wp2_with fail
      refine (HF.out _ _ HI.out).mono ?_
      rintro e v ⟨rfl, hbv⟩
      rw [hA1]
      replace c0 := cells_below hbv c0 hszw
      replace c1 := cells_below hbv c1 hszw
      replace c2 := cells_below hbv c2 hszw
      replace c3 := cells_below hbv c3 hszw
      replace c4 := cells_below hbv c4 hszw
      replace c5 := cells_below hbv c5 hszw
      replace HI := Lib.hid (HI.out.below hbv)
      have HV := Lib.hid (HR.out.trans (hbv.mono (by omega)))
      clear hbv
      go_wp2_with fail
      refine (HF.out _ _ HI.out).mono ?_
      rintro e v' ⟨rfl, hbv⟩
      rw [hA2]
      replace HV := Lib.hid (HV.out.trans (hbv.mono (by have := HV.out.size; simp at this; omega)))
      clear hbv
      go_wp2
      go_ret
      exact ⟨rfl, H0.out.trans (HV.out.mono (by omega))⟩
end Go.Proofs.YtjadiijjahjjoaaDoor
