/-
  In which function a place is: plain facts (as in the layer below).
  The reference's in, Fun and Stray.
  The reference's Check.
  Open places stand behind calls: plain facts along a run.
  MachineCalls: open places stand behind calls; the law's walk.
-/
import Derived.Test.YthkhadbeomkihaaDoorMcOp
import Derived.Test.YthkhadbeomkihaaDoorMc9
import Derived.Test.YthkhadbeomkihaaDoorMcStp
import Derived.Test.YthkhadbeomkihaaDoorMcGo
set_option linter.unusedSimpArgs false
set_option linter.unusedVariables false
namespace Go.Proofs.YthkhadbeomkihaaDoor
set_option maxRecDepth 100000
open Go.RowKit

namespace Im
theorem fn_in {fs : List Int} {nc : Nat} {pl : Int} {n : Nat} (hP : Places fs nc) (hn : n < fs.length) (h1 : fs.getD n 0 ≤ pl) (h2 : pl < till fs nc n) : fn fs nc pl = n := by
  have h3 := hP.nonneg hn
  have h4 := hP.till_le hn
  unfold fn
  rw [if_pos ⟨by omega, by omega⟩, own_eq hP hn h1 h2]
theorem fn_out {fs : List Int} {nc : Nat} {pl : Int} (h : pl < 0 ∨ (nc : Int) ≤ pl) : fn fs nc pl = -1 := by
  unfold fn
  rw [if_neg (by omega)]
theorem fn_mono {fs : List Int} {nc : Nat} (hP : Places fs nc) (hl : 1 ≤ fs.length) {k : Nat} (h : k + 1 < nc) {n : Nat} (hn : n < fs.length) (h1 : fs.getD n 0 ≤ (k : Int) + 1) (h2 : (k : Int) + 1 < till fs nc n) : ∃ n' : Nat, fn fs nc k = n' ∧ n' ≤ n := by
  obtain ⟨n', g1, g2, g3⟩ := own_ex hP hl (p := (k : Int)) (by omega) (by omega)
  refine ⟨n', fn_in hP g1 g2 g3, ?_⟩
  rcases Nat.lt_or_ge n n' with h3 | h3
  · have := hP.apart g1 h3
    omega
  · exact h3
end Im
end Go.Proofs.YthkhadbeomkihaaDoor
namespace Go.Proofs.YthkhadbeomkihaaDoor
set_option maxRecDepth 100000
open Go.RowKit

set_option maxHeartbeats 400000 in
theorem rin_any (x lo hi : Int) (w : World) :
    Calls Tryd.prog 47 #[.int .i64 x, .int .i64 lo, .int .i64 hi] w fun e w' => e = .returned (.bool (decide (lo ≤ x) && decide (x ≤ hi))) ∧ w = w' := by
  go_enter Tryd.func47, Tryd.ntmps47
  go_wp2
  all_goals
    go_ret
    refine ⟨ret_bool ?_, rfl⟩
    simp_all
    try (intro h; omega)

set_option maxHeartbeats 800000 in
theorem rfun_any (mem stk inp : Int) (Ad : Option Addr) (ld cd : Nat) (Af : Option Addr) (lf cf : Nat) (Ac : Option Addr) (lc cc : Nat) (fs : List Int) (pl : Int) (w : World) (hf : InSl w Af lf cf fs) (hP : Im.Places fs lc) (hn : 1 ≤ lf) (hc2 : lc ≤ maxLen) :
    Calls Tryd.prog 33 #[.agg #[.int .i64 mem, .int .i64 stk, .int .i64 inp, .slice Ad ld cd, .slice Af lf cf, .slice Ac lc cc], .int .i64 pl] w fun e w' => e = .returned (.int .i64 (Im.fn fs lc pl)) ∧ Below w.heap.size w w' := by
  have hfl := Lib.hid hf.hlen
  have hf2 := Nat.le_trans hf.hle hf.hcap
  have HPP := Lib.hid hP
  unfold maxLen at hf2 hc2
  obtain ⟨b, o, rfl, hbf, hcf⟩ := hf.mem (by omega)
  have hne : b ≠ w.heap.size := by omega
  have HCF := Lib.hid hcf
  have H0 := Lib.hid (Below.box w (.cells #[.int .i64 mem, .int .i64 stk, .int .i64 inp, .slice Ad ld cd, .slice (some ⟨b, o, none⟩) lf cf, .slice Ac lc cc] 26))
  clear hf hP hcf
  by_cases hin : 0 ≤ pl ∧ pl < lc
  · obtain ⟨p0, p1⟩ := hin
    go_enter Tryd.func33, Tryd.ntmps33
    go_wp2
    go_loop [5, 6] (fun f i => ∃ k : Nat, k ≤ lf ∧ i = .int .i64 k ∧ ∃ fv : Int, f = .int .i64 fv ∧ ((fv = -1 ∧ k = 0) ∨ ∃ n : Nat, n < k ∧ fv = n ∧ fs.getD n 0 ≤ pl ∧ ∀ j, n < j → j < k → pl < fs.getD j 0)) (fun _ i => lf - (intOf i).toNat)
    case atStart => exact ⟨0, by omega, rfl, -1, rfl, .inl ⟨rfl, rfl⟩⟩
    case round =>
      obtain ⟨k, hk, rfl, fv, rfl, hfv⟩ := hrel
      have HFV := Lib.hid hfv
      clear hfv
      by_cases hlt : k < lf
      · have d0 := HCF.out k hlt
        have hki : (k : Int) < lf := by omega
        have hz : ∃ z, fs.getD k 0 = z := ⟨_, rfl⟩
        obtain ⟨z, hz⟩ := hz
        rw [hz] at d0
        have HZ := Lib.hid hz
        clear hz
        by_cases hzp : z ≤ pl
        · go_wp2
          go_round
          case rel => exact ⟨k + 1, by omega, by go_num, k, rfl, .inr ⟨k, by omega, rfl, by rw [HZ.out]; exact hzp, fun j h1 h2 => absurd h2 (by omega)⟩⟩
          case measure => simp [intOf]; omega
        · go_wp2
          go_round
          case rel =>
            refine ⟨k + 1, by omega, by go_num, fv, rfl, ?_⟩
            rcases HFV.out with ⟨_, h0⟩ | ⟨n, h1, h2, h3, h4⟩
            · exfalso
              subst h0
              have := HPP.out.1
              rw [HZ.out] at this
              omega
            · refine .inr ⟨n, by omega, h2, h3, fun j g1 g2 => ?_⟩
              rcases Nat.lt_succ_iff_lt_or_eq.1 g2 with h | h
              · exact h4 j g1 h
              · rw [h, HZ.out]; omega
          case measure => simp [intOf]; omega
      · have hkl : k = lf := by omega
        have HK := Lib.hid hkl
        clear hkl
        go_wp2
        go_ret
        refine ⟨cret_int ?_, H0.out⟩
        rcases HFV.out with ⟨_, h0⟩ | ⟨n, h1, h2, h3, h4⟩
        · have := HK.out
          omega
        · have hkk := HK.out
          have hll := hfl.out
          rw [h2, Im.fn_in HPP.out (n := n) (by omega) h3 ?_]
          rcases Nat.lt_or_ge (n + 1) fs.length with g | g
          · rw [Im.till_in g]
            exact h4 (n + 1) (by omega) (by omega)
          · rw [Im.till_last g]
            exact p1
  · have hfn : Im.fn fs lc pl = -1 := by unfold Im.fn; rw [if_neg hin]
    rw [hfn]
    clear hfn
    by_cases p0 : pl < 0
    · go_enter Tryd.func33, Tryd.ntmps33
      go_wp2
      go_ret
      exact ⟨rfl, H0.out⟩
    · have p1 : (lc : Int) ≤ pl := by omega
      clear hin
      go_enter Tryd.func33, Tryd.ntmps33
      go_wp2
      go_ret
      exact ⟨rfl, H0.out⟩

namespace Im
/-- The first instruction by which it doesn't flow; -1: none. -/
def st (fs : List Int) (cs : List I5) : Int := if stray fs cs < cs.length then stray fs cs else -1
theorem st_at {fs : List Int} {cs : List I5} {k : Nat} (hk : k < cs.length) (h : okB fs cs k = false) (hn : ∀ j, j < k → okB fs cs j = true) : st fs cs = k := by
  unfold st
  rw [stray_at hk h hn, if_pos hk]
theorem st_none {fs : List Int} {cs : List I5} (hn : ∀ j, j < cs.length → okB fs cs j = true) : st fs cs = -1 := by
  unfold st
  rw [stray_none hn, if_neg (Nat.lt_irrefl _)]
end Im

set_option maxRecDepth 10000 in
set_option maxHeartbeats 8000000 in
theorem rstray_any (mem stk inp : Int) (Ad : Option Addr) (ld cd : Nat) (Af : Option Addr) (lf cf : Nat) (Ac : Option Addr) (lc cc : Nat) (p : Im.Pic) (w : World) (hi : ImAt w Ad ld cd Af lf cf Ac lc cc p) (hP : Im.Places p.fs lc) (hlf1 : 1 ≤ lf) (hlc1 : 1 ≤ lc) (hlc2 : lc ≤ 1000000) (hlf2 : lf ≤ 1000000) :
    Calls Tryd.prog 49 #[.agg #[.int .i64 mem, .int .i64 stk, .int .i64 inp, .slice Ad ld cd, .slice Af lf cf, .slice Ac lc cc]] w fun e w' => e = .returned (.int .i64 (Im.st p.fs p.cs)) ∧ Below w.heap.size w w' := by
  have HFUN : ∀ (pl : Int) (W : World), InSl W Af lf cf p.fs → Calls Tryd.prog 33 #[.agg #[.int .i64 mem, .int .i64 stk, .int .i64 inp, .slice Ad ld cd, .slice Af lf cf, .slice Ac lc cc], .int .i64 pl] W fun e w' => e = .returned (.int .i64 (Im.fn p.fs lc pl)) ∧ Below W.heap.size W w' := fun pl W h => rfun_any mem stk inp Ad ld cd Af lf cf Ac lc cc p.fs pl W h hP hlf1 (by unfold maxLen; omega)
  have HF := Lib.hid HFUN
  have HPP := Lib.hid hP
  have HFL := Lib.hid hi.f.hlen
  have HCL := Lib.hid hi.c.hlen
  have HIM := Lib.hid hi
  obtain ⟨bc, oc, rfl, hbc, hcc⟩ := hi.c.mem (by omega)
  have HCC := Lib.hid hcc
  have HBC := Lib.hid hbc
  have H0 := Lib.hid (Below.box w (.cells #[.int .i64 mem, .int .i64 stk, .int .i64 inp, .slice Ad ld cd, .slice Af lf cf, .slice (some ⟨bc, oc, none⟩) lc cc] 26))
  have b0 : (w.alloc (.cells #[.int .i64 mem, .int .i64 stk, .int .i64 inp, .slice Ad ld cd, .slice Af lf cf, .slice (some ⟨bc, oc, none⟩) lc cc] 26)).cell? ⟨w.heap.size, 0, none⟩ = some (.int .i64 mem) := by simp
  have b1 : (w.alloc (.cells #[.int .i64 mem, .int .i64 stk, .int .i64 inp, .slice Ad ld cd, .slice Af lf cf, .slice (some ⟨bc, oc, none⟩) lc cc] 26)).cell? ⟨w.heap.size, 1, none⟩ = some (.int .i64 stk) := by simp
  have b2 : (w.alloc (.cells #[.int .i64 mem, .int .i64 stk, .int .i64 inp, .slice Ad ld cd, .slice Af lf cf, .slice (some ⟨bc, oc, none⟩) lc cc] 26)).cell? ⟨w.heap.size, 2, none⟩ = some (.int .i64 inp) := by simp
  have b3 : (w.alloc (.cells #[.int .i64 mem, .int .i64 stk, .int .i64 inp, .slice Ad ld cd, .slice Af lf cf, .slice (some ⟨bc, oc, none⟩) lc cc] 26)).cell? ⟨w.heap.size, 3, none⟩ = some (.slice Ad ld cd) := by simp
  have b4 : (w.alloc (.cells #[.int .i64 mem, .int .i64 stk, .int .i64 inp, .slice Ad ld cd, .slice Af lf cf, .slice (some ⟨bc, oc, none⟩) lc cc] 26)).cell? ⟨w.heap.size, 4, none⟩ = some (.slice Af lf cf) := by simp
  have b5 : (w.alloc (.cells #[.int .i64 mem, .int .i64 stk, .int .i64 inp, .slice Ad ld cd, .slice Af lf cf, .slice (some ⟨bc, oc, none⟩) lc cc] 26)).cell? ⟨w.heap.size, 5, none⟩ = some (.slice (some ⟨bc, oc, none⟩) lc cc) := by simp
  have G0 := Lib.hid b0
  have G1 := Lib.hid b1
  have G2 := Lib.hid b2
  have G3 := Lib.hid b3
  have G4 := Lib.hid b4
  have G5 := Lib.hid b5
  clear b0 b1 b2 b3 b4 b5 hcc hbc HFUN hP hi
  go_enter Tryd.func49, Tryd.ntmps49
  go_wp2
  go_loopw [3] (fun i wr => ∃ k : Nat, k ≤ lc ∧ i = .int .i64 k ∧ Below (w.heap.size + 1) (w.alloc (.cells #[.int .i64 mem, .int .i64 stk, .int .i64 inp, .slice Ad ld cd, .slice Af lf cf, .slice (some ⟨bc, oc, none⟩) lc cc] 26)) wr ∧ ∀ j, j < k → Im.okB p.fs p.cs j = true) (fun i _ => lc - (intOf i).toNat)
  case atStart => exact ⟨0, by omega, rfl, Below.refl _ _, fun j hj => absurd hj (by omega)⟩
  case round =>
    obtain ⟨k, hk, rfl, hbr, hall⟩ := hrel
    have c0 := cells_below hbr G0.out (by simp)
    have c1 := cells_below hbr G1.out (by simp)
    have c2 := cells_below hbr G2.out (by simp)
    have c3 := cells_below hbr G3.out (by simp)
    have c4 := cells_below hbr G4.out (by simp)
    have c5 := cells_below hbr G5.out (by simp)
    have hszw : w.heap.size < wr.heap.size := by have := hbr.size; simp at this; omega
    have HR := Lib.hid hbr
    have HA := Lib.hid hall
    clear hbr hall
    by_cases hlt : k < lc
    · have hki : (k : Int) < lc := by omega
      have hins : InsAt wr bc (oc + k * 5) (p.cs.getD k Im.z5) := ((HCC.out k hlt).keep fun o => H0.out.cell (p := ⟨bc, o, none⟩) HBC.out).keep fun o => HR.out.cell (p := ⟨bc, o, none⟩) (Nat.lt_succ_of_lt HBC.out)
      have hrng := HIM.out.c.rng k
      have hbcn : bc ≠ wr.heap.size := by have h1 := HBC.out; omega
      have hI5 : ∃ i, p.cs.getD k Im.z5 = i := ⟨_, rfl⟩
      obtain ⟨⟨op, a, b, c, m⟩, hei⟩ := hI5
      rw [hei] at hins hrng
      obtain ⟨x0, x1, x2, x3, x4⟩ := hins
      simp only at x0 x1 x2 x3 x4 hrng
      obtain ⟨hr0, hr1⟩ := hrng
      obtain ⟨nn, hn0, hn1, hn2⟩ := Im.own_ex HPP.out (by have := HFL.out; omega) (p := (k : Int)) (by omega) hki
      have hfk : Im.fn p.fs lc k = nn := Im.fn_in HPP.out hn0 hn1 hn2
      have hokk := Im.okB_eq (fs := p.fs) (cs := p.cs) (by rw [HCL.out]; exact HPP.out) hn0 hn1 (by rw [HCL.out]; exact hn2) hei
      rw [HCL.out, HFL.out] at hokk
      have htl := HPP.out.till_le hn0
      have hfn0 := HPP.out.nonneg hn0
      have hfg : ¬ (k : Int) + 1 = Im.till p.fs lc nn → Cd.goes op = true → ¬ (k : Int) + 1 = lc ∧ Im.fn p.fs lc ((k : Int) + 1) = nn := fun h2 _ => ⟨by omega, Im.fn_in HPP.out hn0 (by omega) (by omega)⟩
      have hnx : (k : Int) + 1 = Im.till p.fs lc nn → ¬ (k : Int) + 1 = lc → Im.fn p.fs lc ((k : Int) + 1) = ((nn + 1 : Nat) : Int) := fun h1 h2 => by
        have h3 : nn + 1 < p.fs.length := by
          rcases Nat.lt_or_ge (nn + 1) p.fs.length with g | g
          · exact g
          · rw [Im.till_last g] at h1
            exact absurd h1 h2
        rw [Im.till_in h3] at h1
        refine Im.fn_in HPP.out h3 (by omega) ?_
        have := HPP.out.lt_till h3
        omega
      have hfm : ¬ (p.fs.getD nn 0 ≤ m ∧ m < Im.till p.fs lc nn) → ¬ Im.fn p.fs lc m = nn := fun h1 h2 => by
        unfold Im.fn at h2
        split at h2
        · rename_i h3
          obtain ⟨g1, g2, g3⟩ := Im.own_spec HPP.out (by have := HFL.out; omega) h3.1 h3.2
          have : Im.own p.fs lc m = nn := by omega
          rw [this] at g2 g3
          exact h1 ⟨g2, g3⟩
        · omega
      have hzz : ∃ z z1, p.fs.getD nn 0 = z ∧ Im.till p.fs lc nn = z1 := ⟨_, _, rfl, rfl⟩
      obtain ⟨z, z1, hz, hz1⟩ := hzz
      rw [hz] at hn1 hokk hfn0 hfm
      rw [hz1] at hn2 hokk htl hfg hnx hfm
      have hopk : Im.leads ⟨op, a, b, c, m⟩ z z1 lf = true → (((op = 21 ∨ op = 22) ∧ 0 ≤ m ∧ m < lc ∧ Im.fn p.fs lc m = nn) ∨ (op = 23 ∧ 0 ≤ m ∧ m < lf) ∨ (op ≠ 21 ∧ op ≠ 22 ∧ op ≠ 23)) := fun hld => by
        unfold Im.leads at hld
        by_cases hj : op = 21 ∨ op = 22
        · rw [if_pos hj] at hld
          simp only [Bool.and_eq_true, decide_eq_true_eq] at hld
          exact .inl ⟨hj, by omega, by omega, Im.fn_in HPP.out hn0 (by rw [hz]; exact hld.1) (by rw [hz1]; exact hld.2)⟩
        · rw [if_neg hj] at hld
          by_cases h23 : op = 23
          · rw [if_pos h23] at hld
            exact .inr (.inl ⟨h23, by omega, of_decide_eq_true hld⟩)
          · exact .inr (.inr ⟨fun h => hj (.inl h), fun h => hj (.inr h), h23⟩)
      have HFG := Lib.hid hfg
      have HNX := Lib.hid hnx
      have HFM := Lib.hid hfm
      have HI := Lib.hid ((HIM.out.f.below H0.out).below (HR.out.mono (by simp)) |>.below (Below.box wr (.cells #[.int .i64 op, .int .i64 a, .int .i64 b, .int .i64 c, .int .u64 m] 59)))
      clear hfg hei hz hz1 hnx hfm
      go_wp2_with fail
      refine (HF.out _ _ HI.out).mono ?_
      rintro e v ⟨rfl, hbv⟩
      rw [hfk]
      have y0 : v.cell? ⟨wr.heap.size, 0, none⟩ = some (.int .i64 op) := cells_below hbv (by simp) (by simp)
      have y4 : v.cell? ⟨wr.heap.size, 4, none⟩ = some (.int .u64 m) := cells_below hbv (by simp) (by simp)
      have hbv' : Below wr.heap.size wr v := (Below.box _ _).trans (hbv.mono (by simp))
      replace c0 := cells_below hbv' c0 hszw
      replace c1 := cells_below hbv' c1 hszw
      replace c2 := cells_below hbv' c2 hszw
      replace c3 := cells_below hbv' c3 hszw
      replace c4 := cells_below hbv' c4 hszw
      replace c5 := cells_below hbv' c5 hszw
      replace HI := Lib.hid (HI.out.below hbv)
      have HV := Lib.hid (HR.out.trans (hbv'.mono (by omega)))
      have LT : Hid (w.heap.size < v.heap.size) := Nat.lt_of_lt_of_le hszw hbv'.size
      have LT2 : Hid (wr.heap.size < v.heap.size) := by have := hbv.size; simp at this; exact this
      clear hbv hbv' x0 x1 x2 x3 x4 HR
      have hwu : IntKind.u64.wrap (lc : Int) = lc := by rw [IntKind.wrap_u64]; omega
      have hwf : IntKind.u64.wrap (lf : Int) = lf := by rw [IntKind.wrap_u64]; omega
      go_wp2_with fail
      cases hob : Im.okB p.fs p.cs k with
      | true =>
        have HOKK := Lib.hid hob
        rw [hob] at hokk
        replace hokk := hokk.symm
        simp only [Bool.and_eq_true, Bool.not_eq_true', Bool.and_eq_false_iff] at hokk
        obtain ⟨hld, hgg⟩ := hokk
        have hop := hopk hld
        have hfg' : Cd.goes op = true → ¬ (k : Int) + 1 = lc ∧ Im.fn p.fs lc ((k : Int) + 1) = nn := fun hgo => HFG.out (by
          rcases hgg with h | h
          · rw [hgo] at h; cases h
          · exact of_decide_eq_false h) hgo
        replace HFG := Lib.hid hfg'
        clear hld hgg hopk hob hfg'
        rcases hop with ⟨hj, hm1, hm2, hfm⟩ | ⟨hj1, hm1, hm2⟩ | ⟨hj1, hj2, hj3⟩
        · have hw : IntKind.i64.wrap m = m := by rw [IntKind.wrap_i64]; omega
          rcases hj with hj | hj
          · subst hj
            have hgo : Cd.goes 21 = false := by decide +kernel
            refine (rgoes_any _ _).mono ?_
            rintro e w9 ⟨rfl, rfl⟩
            rw [hgo]
            clear hgo
            go_wp2_with fail
            refine (HF.out _ _ HI.out).mono ?_
            rintro e v9 ⟨rfl, hbv⟩
            have l1 : w.heap.size < v.heap.size := LT.out
            have l2 : wr.heap.size < v.heap.size := LT2.out
            replace c0 := cells_below hbv c0 l1
            replace c1 := cells_below hbv c1 l1
            replace c2 := cells_below hbv c2 l1
            replace c3 := cells_below hbv c3 l1
            replace c4 := cells_below hbv c4 l1
            replace c5 := cells_below hbv c5 l1
            replace y0 := cells_below hbv y0 l2
            replace y4 := cells_below hbv y4 l2
            replace HI := Lib.hid (HI.out.below hbv)
            replace HV := Lib.hid (HV.out.trans (hbv.mono (by omega)))
            replace LT := Lib.hid (Nat.lt_of_lt_of_le l1 hbv.size)
            replace LT2 := Lib.hid (Nat.lt_of_lt_of_le l2 hbv.size)
            clear hbv l1 l2
            rw [hfm]
            clear hfm
            have hnn : ((nn : Int) != (nn : Int)) = false := by simp
            go_wp2
            go_roundw
            case rel =>
              refine ⟨k + 1, by omega, by go_num, HV.out, fun j hj => ?_⟩
              rcases Nat.lt_succ_iff_lt_or_eq.1 hj with h | h
              · exact HA.out j h
              · rw [h]; exact HOKK.out
            case measure => simp [intOf]; omega
          · subst hj
            have hgo : Cd.goes 22 = true := by decide +kernel
            obtain ⟨hne, hfg⟩ := HFG.out hgo
            have hne' : ((k : Int) + 1 == (lc : Int)) = false := by simpa using hne
            have hnn : ((nn : Int) != (nn : Int)) = false := by simp
            refine (rgoes_any _ _).mono ?_
            rintro e w9 ⟨rfl, rfl⟩
            rw [hgo]
            clear hgo hne
            go_wp2_with fail
            refine (HF.out _ _ HI.out).mono ?_
            rintro e v8 ⟨rfl, hbv⟩
            have l1 : w.heap.size < v.heap.size := LT.out
            have l2 : wr.heap.size < v.heap.size := LT2.out
            replace c0 := cells_below hbv c0 l1
            replace c1 := cells_below hbv c1 l1
            replace c2 := cells_below hbv c2 l1
            replace c3 := cells_below hbv c3 l1
            replace c4 := cells_below hbv c4 l1
            replace c5 := cells_below hbv c5 l1
            replace y0 := cells_below hbv y0 l2
            replace y4 := cells_below hbv y4 l2
            replace HI := Lib.hid (HI.out.below hbv)
            replace HV := Lib.hid (HV.out.trans (hbv.mono (by omega)))
            replace LT := Lib.hid (Nat.lt_of_lt_of_le l1 hbv.size)
            replace LT2 := Lib.hid (Nat.lt_of_lt_of_le l2 hbv.size)
            clear hbv l1 l2
            rw [hfg]
            clear hfg
            go_wp2_with fail
            refine (HF.out _ _ HI.out).mono ?_
            rintro e v9 ⟨rfl, hbv⟩
            have l1 : w.heap.size < v8.heap.size := LT.out
            have l2 : wr.heap.size < v8.heap.size := LT2.out
            replace c0 := cells_below hbv c0 l1
            replace c1 := cells_below hbv c1 l1
            replace c2 := cells_below hbv c2 l1
            replace c3 := cells_below hbv c3 l1
            replace c4 := cells_below hbv c4 l1
            replace c5 := cells_below hbv c5 l1
            replace y0 := cells_below hbv y0 l2
            replace y4 := cells_below hbv y4 l2
            replace HI := Lib.hid (HI.out.below hbv)
            replace HV := Lib.hid (HV.out.trans (hbv.mono (by omega)))
            replace LT := Lib.hid (Nat.lt_of_lt_of_le l1 hbv.size)
            replace LT2 := Lib.hid (Nat.lt_of_lt_of_le l2 hbv.size)
            clear hbv l1 l2
            rw [hfm]
            clear hfm
            go_wp2
            go_roundw
            case rel =>
              refine ⟨k + 1, by omega, by go_num, HV.out, fun j hj => ?_⟩
              rcases Nat.lt_succ_iff_lt_or_eq.1 hj with h | h
              · exact HA.out j h
              · rw [h]; exact HOKK.out
            case measure => simp [intOf]; omega
        · subst hj1
          have hgo : Cd.goes 23 = true := by decide +kernel
          obtain ⟨hne, hfg⟩ := HFG.out hgo
          have hne' : ((k : Int) + 1 == (lc : Int)) = false := by simpa using hne
          have hnn : ((nn : Int) != (nn : Int)) = false := by simp
          have hm4 : m < (lf : Int) := hm2
          refine (rgoes_any _ _).mono ?_
          rintro e w9 ⟨rfl, rfl⟩
          rw [hgo]
          clear hgo hne
          go_wp2_with fail
          refine (HF.out _ _ HI.out).mono ?_
          rintro e v8 ⟨rfl, hbv⟩
          have l1 : w.heap.size < v.heap.size := LT.out
          have l2 : wr.heap.size < v.heap.size := LT2.out
          replace c0 := cells_below hbv c0 l1
          replace c1 := cells_below hbv c1 l1
          replace c2 := cells_below hbv c2 l1
          replace c3 := cells_below hbv c3 l1
          replace c4 := cells_below hbv c4 l1
          replace c5 := cells_below hbv c5 l1
          replace y0 := cells_below hbv y0 l2
          replace y4 := cells_below hbv y4 l2
          replace HI := Lib.hid (HI.out.below hbv)
          replace HV := Lib.hid (HV.out.trans (hbv.mono (by omega)))
          replace LT := Lib.hid (Nat.lt_of_lt_of_le l1 hbv.size)
          replace LT2 := Lib.hid (Nat.lt_of_lt_of_le l2 hbv.size)
          clear hbv l1 l2
          rw [hfg]
          clear hfg
          go_wp2
          go_roundw
          case rel =>
            refine ⟨k + 1, by omega, by go_num, HV.out, fun j hj => ?_⟩
            rcases Nat.lt_succ_iff_lt_or_eq.1 hj with h | h
            · exact HA.out j h
            · rw [h]; exact HOKK.out
          case measure => simp [intOf]; omega
        · have hj1' : (op == 21) = false := by simpa using hj1
          have hj2' : (op == 22) = false := by simpa using hj2
          have hj3' : (op == 23) = false := by simpa using hj3
          refine (rgoes_any _ _).mono ?_
          rintro e w9 ⟨rfl, rfl⟩
          by_cases hgo : Cd.goes op = true
          · obtain ⟨hne, hfg⟩ := HFG.out hgo
            have hne' : ((k : Int) + 1 == (lc : Int)) = false := by simpa using hne
            have hnn : ((nn : Int) != (nn : Int)) = false := by simp
            rw [hgo]
            clear hgo hne
            go_wp2_with fail
            refine (HF.out _ _ HI.out).mono ?_
            rintro e v8 ⟨rfl, hbv⟩
            have l1 : w.heap.size < v.heap.size := LT.out
            have l2 : wr.heap.size < v.heap.size := LT2.out
            replace c0 := cells_below hbv c0 l1
            replace c1 := cells_below hbv c1 l1
            replace c2 := cells_below hbv c2 l1
            replace c3 := cells_below hbv c3 l1
            replace c4 := cells_below hbv c4 l1
            replace c5 := cells_below hbv c5 l1
            replace y0 := cells_below hbv y0 l2
            replace y4 := cells_below hbv y4 l2
            replace HI := Lib.hid (HI.out.below hbv)
            replace HV := Lib.hid (HV.out.trans (hbv.mono (by omega)))
            replace LT := Lib.hid (Nat.lt_of_lt_of_le l1 hbv.size)
            replace LT2 := Lib.hid (Nat.lt_of_lt_of_le l2 hbv.size)
            clear hbv l1 l2
            rw [hfg]
            clear hfg
            go_wp2
            go_roundw
            case rel =>
              refine ⟨k + 1, by omega, by go_num, HV.out, fun j hj => ?_⟩
              rcases Nat.lt_succ_iff_lt_or_eq.1 hj with h | h
              · exact HA.out j h
              · rw [h]; exact HOKK.out
            case measure => simp [intOf]; omega
          · have hgo' : Cd.goes op = false := by simpa using hgo
            rw [hgo']
            clear hgo hgo'
            go_wp2
            go_roundw
            case rel =>
              refine ⟨k + 1, by omega, by go_num, HV.out, fun j hj => ?_⟩
              rcases Nat.lt_succ_iff_lt_or_eq.1 hj with h | h
              · exact HA.out j h
              · rw [h]; exact HOKK.out
            case measure => simp [intOf]; omega
      | false =>
        have HOKK := Lib.hid hob
        rw [hob] at hokk
        replace hokk := hokk.symm
        have hbd : (Cd.goes op = true ∧ (k : Int) + 1 = z1) ∨ (¬ (Cd.goes op = true ∧ (k : Int) + 1 = z1) ∧ Im.leads ⟨op, a, b, c, m⟩ z z1 lf = false) := by
          by_cases h : Cd.goes op = true ∧ (k : Int) + 1 = z1
          · exact .inl h
          · refine .inr ⟨h, ?_⟩
            rw [Bool.and_eq_false_iff] at hokk
            rcases hokk with h1 | h1
            · exact h1
            · simp at h1
              exact absurd h1 h
        clear hokk hob hopk
        rcases hbd with ⟨hgo, hti⟩ | ⟨hng, hld⟩
        · have HTI := Lib.hid hti
          clear hti
          refine (rgoes_any _ _).mono ?_
          rintro e w9 ⟨rfl, rfl⟩
          rw [hgo]
          clear hgo
          by_cases hl : (k : Int) + 1 = lc
          · have hl' : ((k : Int) + 1 == (lc : Int)) = true := by simpa using hl
            clear hl
            go_wp2
            go_ret
            exact ⟨cret_int (Im.st_at (by have := HCL.out; omega) HOKK.out HA.out).symm, H0.out.trans (HV.out.mono (by omega))⟩
          · have hl' : ((k : Int) + 1 == (lc : Int)) = false := by simpa using hl
            have hfg : Im.fn p.fs lc ((k : Int) + 1) = ((nn + 1 : Nat) : Int) := HNX.out HTI.out hl
            clear hl
            go_wp2_with fail
            refine (HF.out _ _ HI.out).mono ?_
            rintro e v8 ⟨rfl, hbv⟩
            have l1 : w.heap.size < v.heap.size := LT.out
            have l2 : wr.heap.size < v.heap.size := LT2.out
            replace c0 := cells_below hbv c0 l1
            replace c1 := cells_below hbv c1 l1
            replace c2 := cells_below hbv c2 l1
            replace c3 := cells_below hbv c3 l1
            replace c4 := cells_below hbv c4 l1
            replace c5 := cells_below hbv c5 l1
            replace y0 := cells_below hbv y0 l2
            replace y4 := cells_below hbv y4 l2
            replace HI := Lib.hid (HI.out.below hbv)
            replace HV := Lib.hid (HV.out.trans (hbv.mono (by omega)))
            replace LT := Lib.hid (Nat.lt_of_lt_of_le l1 hbv.size)
            replace LT2 := Lib.hid (Nat.lt_of_lt_of_le l2 hbv.size)
            clear hbv l1 l2
            rw [hfg]
            clear hfg
            have hnn : (((nn + 1 : Nat) : Int) != (nn : Int)) = true := by
              have : ¬ ((nn + 1 : Nat) : Int) = (nn : Int) := by omega
              simpa using this
            go_wp2
            go_ret
            exact ⟨cret_int (Im.st_at (by have := HCL.out; omega) HOKK.out HA.out).symm, H0.out.trans (HV.out.mono (by omega))⟩
        · have hkind : (op = 21 ∨ op = 22) ∨ op = 23 := by
            unfold Im.leads at hld
            simp only at hld
            by_cases h1 : op = 21 ∨ op = 22
            · exact .inl h1
            · rw [if_neg h1] at hld
              by_cases h2 : op = 23
              · exact .inr h2
              · rw [if_neg h2] at hld; cases hld
          rcases hkind with h12 | h23
          · have hlm : ¬ (z ≤ m ∧ m < z1) := by
              unfold Im.leads at hld
              simp only at hld
              rw [if_pos h12] at hld
              intro h
              rw [decide_eq_true h.1, decide_eq_true h.2] at hld
              cases hld
            have hwu : IntKind.u64.wrap (lc : Int) = lc := by rw [IntKind.wrap_u64]; omega
            rcases h12 with hj | hj
            · subst hj
              have hgo : Cd.goes 21 = false := by decide +kernel
              refine (rgoes_any _ _).mono ?_
              rintro e w9 ⟨rfl, rfl⟩
              rw [hgo]
              clear hgo hld
              by_cases hml : (lc : Int) ≤ m
              · go_wp2
                go_ret
                exact ⟨cret_int (Im.st_at (by have := HCL.out; omega) HOKK.out HA.out).symm, H0.out.trans (HV.out.mono (by omega))⟩
              · have hw : IntKind.i64.wrap m = m := by rw [IntKind.wrap_i64]; omega
                have hfm := HFM.out hlm
                have hml' : m < (lc : Int) := by omega
                go_wp2_with fail
                refine (HF.out _ _ HI.out).mono ?_
                rintro e v9 ⟨rfl, hbv⟩
                have l1 : w.heap.size < v.heap.size := LT.out
                have l2 : wr.heap.size < v.heap.size := LT2.out
                replace c0 := cells_below hbv c0 l1
                replace c1 := cells_below hbv c1 l1
                replace c2 := cells_below hbv c2 l1
                replace c3 := cells_below hbv c3 l1
                replace c4 := cells_below hbv c4 l1
                replace c5 := cells_below hbv c5 l1
                replace y0 := cells_below hbv y0 l2
                replace y4 := cells_below hbv y4 l2
                replace HI := Lib.hid (HI.out.below hbv)
                replace HV := Lib.hid (HV.out.trans (hbv.mono (by omega)))
                replace LT := Lib.hid (Nat.lt_of_lt_of_le l1 hbv.size)
                replace LT2 := Lib.hid (Nat.lt_of_lt_of_le l2 hbv.size)
                clear hbv l1 l2
                have hnn : (Im.fn p.fs lc m != (nn : Int)) = true := by simpa using hfm
                go_wp2
                go_ret
                exact ⟨cret_int (Im.st_at (by have := HCL.out; omega) HOKK.out HA.out).symm, H0.out.trans (HV.out.mono (by omega))⟩
            · subst hj
              have hgo : Cd.goes 22 = true := by decide +kernel
              obtain ⟨hne, hfg⟩ := HFG.out (fun h => hng ⟨hgo, h⟩) hgo
              have hne' : ((k : Int) + 1 == (lc : Int)) = false := by simpa using hne
              have hnn0 : ((nn : Int) != (nn : Int)) = false := by simp
              refine (rgoes_any _ _).mono ?_
              rintro e w9 ⟨rfl, rfl⟩
              rw [hgo]
              clear hgo hld hne
              go_wp2_with fail
              refine (HF.out _ _ HI.out).mono ?_
              rintro e v8 ⟨rfl, hbv⟩
              have l1 : w.heap.size < v.heap.size := LT.out
              have l2 : wr.heap.size < v.heap.size := LT2.out
              replace c0 := cells_below hbv c0 l1
              replace c1 := cells_below hbv c1 l1
              replace c2 := cells_below hbv c2 l1
              replace c3 := cells_below hbv c3 l1
              replace c4 := cells_below hbv c4 l1
              replace c5 := cells_below hbv c5 l1
              replace y0 := cells_below hbv y0 l2
              replace y4 := cells_below hbv y4 l2
              replace HI := Lib.hid (HI.out.below hbv)
              replace HV := Lib.hid (HV.out.trans (hbv.mono (by omega)))
              replace LT := Lib.hid (Nat.lt_of_lt_of_le l1 hbv.size)
              replace LT2 := Lib.hid (Nat.lt_of_lt_of_le l2 hbv.size)
              clear hbv l1 l2
              rw [hfg]
              clear hfg
              by_cases hml : (lc : Int) ≤ m
              · go_wp2
                go_ret
                exact ⟨cret_int (Im.st_at (by have := HCL.out; omega) HOKK.out HA.out).symm, H0.out.trans (HV.out.mono (by omega))⟩
              · have hw : IntKind.i64.wrap m = m := by rw [IntKind.wrap_i64]; omega
                have hfm := HFM.out hlm
                have hml' : m < (lc : Int) := by omega
                go_wp2_with fail
                refine (HF.out _ _ HI.out).mono ?_
                rintro e v9 ⟨rfl, hbv⟩
                have l1 : w.heap.size < v8.heap.size := LT.out
                have l2 : wr.heap.size < v8.heap.size := LT2.out
                replace c0 := cells_below hbv c0 l1
                replace c1 := cells_below hbv c1 l1
                replace c2 := cells_below hbv c2 l1
                replace c3 := cells_below hbv c3 l1
                replace c4 := cells_below hbv c4 l1
                replace c5 := cells_below hbv c5 l1
                replace y0 := cells_below hbv y0 l2
                replace y4 := cells_below hbv y4 l2
                replace HI := Lib.hid (HI.out.below hbv)
                replace HV := Lib.hid (HV.out.trans (hbv.mono (by omega)))
                replace LT := Lib.hid (Nat.lt_of_lt_of_le l1 hbv.size)
                replace LT2 := Lib.hid (Nat.lt_of_lt_of_le l2 hbv.size)
                clear hbv l1 l2
                have hnn : (Im.fn p.fs lc m != (nn : Int)) = true := by simpa using hfm
                go_wp2
                go_ret
                exact ⟨cret_int (Im.st_at (by have := HCL.out; omega) HOKK.out HA.out).symm, H0.out.trans (HV.out.mono (by omega))⟩
          · have hlm : ¬ m < lf := by
              unfold Im.leads at hld
              simp only at hld
              rw [if_neg (by omega), if_pos h23] at hld
              exact of_decide_eq_false hld
            subst h23
            have hgo : Cd.goes 23 = true := by decide +kernel
            obtain ⟨hne, hfg⟩ := HFG.out (fun h => hng ⟨hgo, h⟩) hgo
            have hne' : ((k : Int) + 1 == (lc : Int)) = false := by simpa using hne
            have hnn0 : ((nn : Int) != (nn : Int)) = false := by simp
            have hm4 : (lf : Int) ≤ m := by omega
            have hwu : IntKind.u64.wrap (lf : Int) = lf := by rw [IntKind.wrap_u64]; omega
            refine (rgoes_any _ _).mono ?_
            rintro e w9 ⟨rfl, rfl⟩
            rw [hgo]
            clear hgo hld hne
            go_wp2_with fail
            refine (HF.out _ _ HI.out).mono ?_
            rintro e v8 ⟨rfl, hbv⟩
            have l1 : w.heap.size < v.heap.size := LT.out
            have l2 : wr.heap.size < v.heap.size := LT2.out
            replace c0 := cells_below hbv c0 l1
            replace c1 := cells_below hbv c1 l1
            replace c2 := cells_below hbv c2 l1
            replace c3 := cells_below hbv c3 l1
            replace c4 := cells_below hbv c4 l1
            replace c5 := cells_below hbv c5 l1
            replace y0 := cells_below hbv y0 l2
            replace y4 := cells_below hbv y4 l2
            replace HI := Lib.hid (HI.out.below hbv)
            replace HV := Lib.hid (HV.out.trans (hbv.mono (by omega)))
            replace LT := Lib.hid (Nat.lt_of_lt_of_le l1 hbv.size)
            replace LT2 := Lib.hid (Nat.lt_of_lt_of_le l2 hbv.size)
            clear hbv l1 l2
            rw [hfg]
            clear hfg
            go_wp2
            go_ret
            exact ⟨cret_int (Im.st_at (by have := HCL.out; omega) HOKK.out HA.out).symm, H0.out.trans (HV.out.mono (by omega))⟩
    · have hkl : k = lc := by omega
      have hall : ∀ j, j < p.cs.length → Im.okB p.fs p.cs j = true := fun j hj => HA.out j (by have := HCL.out; omega)
      have HST := Lib.hid (Im.st_none hall)
      clear hkl hall
      go_wp2
      go_ret
      exact ⟨cret_int HST.out.symm, H0.out.trans (HR.out.mono (by omega))⟩
end Go.Proofs.YthkhadbeomkihaaDoor
namespace Go.Proofs.YthkhadbeomkihaaDoor
set_option maxRecDepth 100000
open Go.RowKit

set_option maxRecDepth 10000 in
set_option maxHeartbeats 8000000 in
theorem rcheck_any (mem stk inp : Int) (Ad : Option Addr) (ld cd : Nat) (Af : Option Addr) (lf cf : Nat) (Ac : Option Addr) (lc cc : Nat) (p : Im.Pic) (w : World) (hi : ImAt w Ad ld cd Af lf cf Ac lc cc p) (e0 : p.mem = mem) (e1 : p.stk = stk) (e2 : p.inp = inp) (hlc : lc ≤ 1000000) (hlf : lf ≤ 1000000) (hld : ld ≤ 1000000) :
    Calls Tryd.prog 31 #[.agg #[.int .i64 mem, .int .i64 stk, .int .i64 inp, .slice Ad ld cd, .slice Af lf cf, .slice Ac lc cc]] w fun e w' => e = .returned (.int .i64 (Im.chk p)) ∧ Below w.heap.size w w' := by
  have HDL := Lib.hid hi.d.hlen
  have HFL := Lib.hid hi.f.hlen
  have HCL := Lib.hid hi.c.hlen
  have hC1 : Im.Cnt p ↔ (((0 ≤ mem ∧ mem ≤ 64) ∧ (0 ≤ stk ∧ stk ≤ 16) ∧ (0 ≤ inp ∧ inp ≤ 16) ∧ (ld : Int) ≤ mem ∧ (1 ≤ (lf : Int) ∧ (lf : Int) ≤ 16)) ∧ ((1 ≤ lc ∧ lc ≤ 256) ∧ Im.Places p.fs lc)) := by
    unfold Im.Cnt
    rw [e0, e1, e2, HDL.out, HFL.out, HCL.out]
    constructor
    · rintro ⟨h1, h2, h3, h4, h5, h6, h7⟩
      exact ⟨⟨h1, h2, h3, h4, by omega⟩, h6, h7⟩
    · rintro ⟨⟨h1, h2, h3, h4, h5⟩, h6, h7⟩
      exact ⟨h1, h2, h3, h4, by omega, h6, h7⟩
  have HC1 := Lib.hid hC1
  have HIM := Lib.hid hi
  have H0 := Lib.hid (Below.box w (.cells #[.int .i64 mem, .int .i64 stk, .int .i64 inp, .slice Ad ld cd, .slice Af lf cf, .slice Ac lc cc] 26))
  clear hC1 hi e0 e1 e2
  by_cases hc1 : (0 ≤ mem ∧ mem ≤ 64) ∧ (0 ≤ stk ∧ stk ≤ 16) ∧ (0 ≤ inp ∧ inp ≤ 16) ∧ (ld : Int) ≤ mem ∧ (1 ≤ (lf : Int) ∧ (lf : Int) ≤ 16)
  · have HCC1 := Lib.hid hc1
    obtain ⟨⟨m1, m2⟩, ⟨m3, m4⟩, ⟨m5, m6⟩, m7, m8, m9⟩ := hc1
    have b0 : (w.alloc (.cells #[.int .i64 mem, .int .i64 stk, .int .i64 inp, .slice Ad ld cd, .slice Af lf cf, .slice Ac lc cc] 26)).cell? ⟨w.heap.size, 0, none⟩ = some (.int .i64 mem) := by simp
    have b1 : (w.alloc (.cells #[.int .i64 mem, .int .i64 stk, .int .i64 inp, .slice Ad ld cd, .slice Af lf cf, .slice Ac lc cc] 26)).cell? ⟨w.heap.size, 1, none⟩ = some (.int .i64 stk) := by simp
    have b2 : (w.alloc (.cells #[.int .i64 mem, .int .i64 stk, .int .i64 inp, .slice Ad ld cd, .slice Af lf cf, .slice Ac lc cc] 26)).cell? ⟨w.heap.size, 2, none⟩ = some (.int .i64 inp) := by simp
    have b3 : (w.alloc (.cells #[.int .i64 mem, .int .i64 stk, .int .i64 inp, .slice Ad ld cd, .slice Af lf cf, .slice Ac lc cc] 26)).cell? ⟨w.heap.size, 3, none⟩ = some (.slice Ad ld cd) := by simp
    have b4 : (w.alloc (.cells #[.int .i64 mem, .int .i64 stk, .int .i64 inp, .slice Ad ld cd, .slice Af lf cf, .slice Ac lc cc] 26)).cell? ⟨w.heap.size, 4, none⟩ = some (.slice Af lf cf) := by simp
    have b5 : (w.alloc (.cells #[.int .i64 mem, .int .i64 stk, .int .i64 inp, .slice Ad ld cd, .slice Af lf cf, .slice Ac lc cc] 26)).cell? ⟨w.heap.size, 5, none⟩ = some (.slice Ac lc cc) := by simp
    have G0 := Lib.hid b0
    have G1 := Lib.hid b1
    have G2 := Lib.hid b2
    have G3 := Lib.hid b3
    have G4 := Lib.hid b4
    have G5 := Lib.hid b5
    clear b0 b1 b2 b3 b4 b5
    obtain ⟨bf, of, hAf, hbf, hcf⟩ := HIM.out.f.mem (by omega)
    have HCF := Lib.hid hcf
    have HBF := Lib.hid hbf
    have HAF := Lib.hid hAf
    clear hcf hbf hAf
    go_enter Tryd.func31, Tryd.ntmps31
    go_wp2_with (go_at_call 47; refine (rin_any _ _ _ _).mono ?_; rintro e w' ⟨rfl, rfl⟩)
    go_loopw [3] (fun i wr => ∃ k : Nat, k ≤ lf ∧ i = .int .i64 k ∧ Below (w.heap.size + 1) (w.alloc (.cells #[.int .i64 mem, .int .i64 stk, .int .i64 inp, .slice Ad ld cd, .slice Af lf cf, .slice Ac lc cc] 26)) wr ∧ (0 < k → p.fs.getD 0 0 = 0) ∧ ∀ j, j + 1 < k → p.fs.getD j 0 < p.fs.getD (j + 1) 0) (fun i _ => lf - (intOf i).toNat)
    case atStart => exact ⟨0, by omega, rfl, Below.refl _ _, fun h => absurd h (by omega), fun j hj => absurd hj (by omega)⟩
    case round =>
      obtain ⟨k, hk, rfl, hbr, hz0, hall⟩ := hrel
      have c0 := cells_below hbr G0.out (by simp)
      have c1 := cells_below hbr G1.out (by simp)
      have c2 := cells_below hbr G2.out (by simp)
      have c3 := cells_below hbr G3.out (by simp)
      have c4 := cells_below hbr G4.out (by simp)
      have c5 := cells_below hbr G5.out (by simp)
      rw [HAF.out] at c4
      have HR := Lib.hid hbr
      have HA := Lib.hid hall
      have HZ0 := Lib.hid hz0
      clear hbr hall hz0
      have hcell : ∀ i, i < lf → wr.cell? ⟨bf, of + i, none⟩ = some (.int .i64 (p.fs.getD i 0)) := fun i hi => cells_below HR.out (cells_below H0.out (HCF.out i hi) HBF.out) (Nat.lt_succ_of_lt HBF.out)
      have HCELL := Lib.hid hcell
      clear hcell
      by_cases hlt : k < lf
      · have hki : (k : Int) < lf := by omega
        match k, hk, hlt, hki, HA, HZ0 with
        | 0, hk, hlt, hki, HA, HZ0 =>
          have d0 : wr.cell? ⟨bf, of, none⟩ = some (.int .i64 (p.fs.getD 0 0)) := HCELL.out 0 hlt
          have hz : ∃ z, p.fs.getD 0 0 = z := ⟨_, rfl⟩
          obtain ⟨z, hz⟩ := hz
          rw [hz] at d0
          have HZ := Lib.hid hz
          clear hz
          by_cases hz : z = 0
          · have hz' : (z != 0) = false := by simpa using hz
            go_wp2_with fail
            go_quiet (fail)
            go_wp2
            go_roundw
            case rel => exact ⟨1, by omega, by go_num, below_drewN HR.out nq, fun _ => by rw [HZ.out]; exact hz, fun j hj => absurd hj (by omega)⟩
            case measure => simp [intOf]; omega
          · have hz' : (z != 0) = true := by simpa using hz
            have hck : Im.chk p = 3 := Im.chk_cnt fun h => hz (by rw [← HZ.out]; exact (HC1.out.1 h).2.2.1)
            have HCK := Lib.hid hck
            clear hck
            go_wp2_with fail
            go_quiet (fail)
            go_wp2
            go_ret
            exact ⟨cret_int HCK.out.symm, H0.out.trans (below_drewN (HR.out.mono (by omega)) nq)⟩
        | j + 1, hk, hlt, hki, HA, HZ0 =>
          have d0 := HCELL.out j (by omega)
          have d1 := HCELL.out (j + 1) hlt
          have hz : ∃ z0 z1, p.fs.getD j 0 = z0 ∧ p.fs.getD (j + 1) 0 = z1 := ⟨_, _, rfl, rfl⟩
          obtain ⟨z0, z1, e0, e1⟩ := hz
          rw [e0] at d0
          rw [e1] at d1
          have E0 := Lib.hid e0
          have E1 := Lib.hid e1
          have hj1 : (j : Int) + 1 < lf := by omega
          have hj0 : ((j : Int) + 1 == 0) = false := by
            have : ¬ (j : Int) + 1 = 0 := by omega
            simpa using this
          have hjp : (0 : Int) < (j : Int) + 1 := by omega
          clear e0 e1
          by_cases hz : z1 ≤ z0
          · have hck : Im.chk p = 3 := Im.chk_cnt fun h => by
              have := (HC1.out.1 h).2.2.2.1 j (by have := HFL.out; omega)
              rw [E0.out, E1.out] at this
              omega
            have HCK := Lib.hid hck
            clear hck
            go_wp2_with fail
            go_quiet (fail)
            go_wp2
            go_ret
            exact ⟨cret_int HCK.out.symm, H0.out.trans (below_drewN (HR.out.mono (by omega)) nq)⟩
          · go_wp2_with fail
            go_quiet (fail)
            go_wp2
            go_roundw
            case rel =>
              refine ⟨j + 1 + 1, by omega, by go_num, below_drewN HR.out nq, fun _ => HZ0.out (by omega), fun i hi => ?_⟩
              rcases Nat.lt_succ_iff_lt_or_eq.1 hi with h | h
              · exact HA.out i h
              · obtain rfl : i = j := by omega
                rw [E0.out, E1.out]; omega
            case measure => simp [intOf]; omega
      · have hkl : lf = k := by omega
        subst hkl
        obtain ⟨kf, hkf⟩ : ∃ kf, lf = kf + 1 := ⟨lf - 1, by omega⟩
        have d1 := HCELL.out kf (by omega)
        have hz : ∃ z, p.fs.getD kf 0 = z := ⟨_, rfl⟩
        obtain ⟨z, hz⟩ := hz
        rw [hz] at d1
        have HZ := Lib.hid hz
        have hPl : Im.Places p.fs lc ↔ z < lc := by
          have hl : p.fs.length - 1 = kf := by have := HFL.out; omega
          unfold Im.Places
          rw [hl, hz]
          exact ⟨fun h => h.2.2, fun h => ⟨HZ0.out (by omega), fun j hj => HA.out j (by omega), h⟩⟩
        have HPL := Lib.hid hPl
        have hlf' : (lf : Int) - 1 = kf := by omega
        have hkf1 : (kf : Int) < lf := by omega
        have hkf2 : kf < lf := by omega
        have HKF := Lib.hid hkf
        clear hz hPl hkf
        by_cases h256 : (256 : Int) < lc
        · have hd256 : decide ((256 : Int) < (lc : Int)) = true := decide_eq_true h256
          have hck : Im.chk p = 3 := Im.chk_cnt fun h => by have := (HC1.out.1 h).2.1.2; omega
          have HCK := Lib.hid hck
          clear hck
          go_wp2_with fail
          go_quiet (fail)
          go_wp2
          go_ret
          exact ⟨cret_int HCK.out.symm, H0.out.trans (below_drewN (HR.out.mono (by omega)) nq)⟩
        · have hd256 : decide ((256 : Int) < (lc : Int)) = false := decide_eq_false h256
          by_cases hzl : (lc : Int) ≤ z
          · have hck : Im.chk p = 3 := Im.chk_cnt fun h => by have := HPL.out.1 (HC1.out.1 h).2.2; omega
            have HCK := Lib.hid hck
            clear hck
            go_wp2_with fail
            go_quiet (fail)
            go_wp2
            go_ret
            exact ⟨cret_int HCK.out.symm, H0.out.trans (below_drewN (HR.out.mono (by omega)) nq)⟩
          · have hP : Im.Places p.fs lc := HPL.out.2 (by omega)
            have hnn := hP.nonneg (k := kf) (by have := HFL.out; omega)
            rw [HZ.out] at hnn
            have hlc1 : 1 ≤ lc := by omega
            have hCn : Im.Cnt p := HC1.out.2 ⟨HCC1.out, ⟨hlc1, by omega⟩, hP⟩
            have HCN := Lib.hid hCn
            have HPP := Lib.hid hP
            have HRG := Lib.hid HIM.out.c.rng
            obtain ⟨bc, oc, hAc, hbc, hcc⟩ := HIM.out.c.mem (by omega)
            have HCC := Lib.hid hcc
            have HBC := Lib.hid hbc
            have HAC := Lib.hid hAc
            clear hcc hbc hAc hCn hP
            go_wp2_with fail
            go_quiet (fail)
            go_wp2
            go_loopw [4] (fun i wx => ∃ q : Nat, q ≤ lc ∧ i = .int .i64 q ∧ Below (w.heap.size + 1) (w.alloc (.cells #[.int .i64 mem, .int .i64 stk, .int .i64 inp, .slice Ad ld cd, .slice Af lf cf, .slice Ac lc cc] 26)) wx ∧ ∀ j, j < q → Im.bad5 (p.cs.getD j Im.z5) = -1) (fun i _ => lc - (intOf i).toNat)
            case atStart => exact ⟨0, by omega, rfl, below_drewN HR.out nq, fun j hj => absurd hj (by omega)⟩
            case round =>
              obtain ⟨q, hq, rfl, hbx, hall⟩ := hrel
              have x0 := cells_below hbx G0.out (by simp)
              have x1 := cells_below hbx G1.out (by simp)
              have x2 := cells_below hbx G2.out (by simp)
              have x3 := cells_below hbx G3.out (by simp)
              have x4 := cells_below hbx G4.out (by simp)
              have x5 := cells_below hbx G5.out (by simp)
              have HX := Lib.hid hbx
              have HL := Lib.hid hall
              clear hbx hall c0 c1 c2 c3 c4 c5 d1
              by_cases hqt : q < lc
              · have hqi : (q : Int) < lc := by omega
                rw [HAC.out] at x5
                have hins := ((HCC.out q hqt).keep (fun o => H0.out.cell (p := ⟨bc, o, none⟩) HBC.out)).keep (fun o => HX.out.cell (p := ⟨bc, o, none⟩) (Nat.lt_succ_of_lt HBC.out))
                have hm := HRG.out q
                have hI5 : ∃ i, p.cs.getD q Im.z5 = i := ⟨_, rfl⟩
                obtain ⟨⟨op, a, b, c', m⟩, hei⟩ := hI5
                rw [hei] at hins hm
                obtain ⟨y0, y1, y2, y3, y4⟩ := hins
                simp only at y0 y1 y2 y3 y4 hm
                have HEI := Lib.hid hei
                clear hei
                by_cases hbad : Cd.bad op a b c' m = -1
                · have HBD := Lib.hid hbad
                  clear hbad
                  go_wp2_with fail
                  refine (rput_ok op a b c' m _ HBD.out hm.1 hm.2).mono ?_
                  rintro e v2 ⟨g, cap, rfl, _, hb2⟩
                  have HB2 := Lib.hid (HX.out.trans (hb2.mono (by have := HX.out.size; simp at this; omega)))
                  clear hb2
                  go_wp2
                  go_roundw
                  case rel =>
                    refine ⟨q + 1, by omega, by go_num, HB2.out, fun j hj => ?_⟩
                    rcases Nat.lt_succ_iff_lt_or_eq.1 hj with h | h
                    · exact HL.out j h
                    · rw [h, HEI.out]; exact HBD.out
                  case measure => simp [intOf]; omega
                · have hck : Im.chk p = Cd.er (Cd.bad op a b c' m) := by
                    have h1 := Im.firstE_at p.cs q (by have := HCL.out; omega) HL.out (by rw [HEI.out]; exact hbad)
                    rw [HEI.out] at h1
                    exact Im.chk_bad HCN.out h1 (Im.er_ne hbad)
                  have hne : (Cd.er (Cd.bad op a b c' m) != 0) = true := by simpa using Im.er_ne hbad
                  have HBD := Lib.hid hbad
                  have HCK := Lib.hid hck
                  clear hck hbad
                  go_wp2_with fail
                  refine (rput_bad op a b c' m _ HBD.out).mono ?_
                  rintro e v2 ⟨rfl, hb2⟩
                  have HB2 := Lib.hid (HX.out.trans (hb2.mono (by have := HX.out.size; simp at this; omega)))
                  clear hb2
                  go_wp2
                  go_ret
                  exact ⟨cret_int HCK.out.symm, H0.out.trans (HB2.out.mono (by omega))⟩
              · have hall : ∀ j, j < p.cs.length → Im.bad5 (p.cs.getD j Im.z5) = -1 := fun j hj => HL.out j (by have := HCL.out; omega)
                have hck := Im.chk_fl HCN.out (Im.firstE_none _ hall)
                have HCK := Lib.hid hck
                have hIx := (HIM.out.below H0.out).below (HX.out.mono (by simp))
                have HST := Lib.hid (rstray_any mem stk inp Ad ld cd Af lf cf Ac lc cc p wr hIx HPP.out (by omega) hlc1 hlc hlf)
                have hst : (Im.flB p.fs p.cs = true ∧ 0 ≤ Im.st p.fs p.cs) ∨ (Im.flB p.fs p.cs = false ∧ Im.st p.fs p.cs = -1) := by
                  unfold Im.flB Im.st
                  by_cases h : Im.stray p.fs p.cs < p.cs.length
                  · rw [decide_eq_true h, if_pos h]
                    exact .inl ⟨rfl, by omega⟩
                  · rw [decide_eq_false h, if_neg h]
                    exact .inr ⟨rfl, rfl⟩
                have hs : ∃ s, Im.st p.fs p.cs = s := ⟨_, rfl⟩
                obtain ⟨s, hs⟩ := hs
                rw [hs] at hst HST
                clear hck hall hs hIx
                go_wp2_with fail
                refine HST.out.mono ?_
                rintro e v2 ⟨rfl, hb2⟩
                have HB2 := Lib.hid (HX.out.trans (hb2.mono (by have := HX.out.size; simp at this; omega)))
                clear hb2 x0 x1 x2 x3 x4 x5
                rcases hst with ⟨h1, h2⟩ | ⟨h1, h2⟩
                · have hcc := HCK.out
                  rw [h1, if_pos rfl] at hcc
                  have HCC7 := Lib.hid hcc
                  clear hcc h1
                  go_wp2
                  go_ret
                  exact ⟨cret_int HCC7.out.symm, H0.out.trans (HB2.out.mono (by omega))⟩
                · have hcc := HCK.out
                  rw [h1] at hcc
                  have HCC7 := Lib.hid (show Im.chk p = 0 from hcc)
                  subst h2
                  clear hcc h1
                  go_wp2
                  go_ret
                  exact ⟨cret_int HCC7.out.symm, H0.out.trans (HB2.out.mono (by omega))⟩
  · have hck : Im.chk p = 3 := Im.chk_cnt fun h => hc1 (HC1.out.1 h).1
    rw [hck]
    have HNC := Lib.hid hc1
    clear hck hc1
    go_enter Tryd.func31, Tryd.ntmps31
    go_wp2_with (go_at_call 47; refine (rin_any _ _ _ _).mono ?_; rintro e w' ⟨rfl, rfl⟩)
    all_goals first
      | (go_ret
         exact ⟨rfl, H0.out⟩)
      | (exfalso
         apply HNC.out
         clear HNC HC1 HIM H0
         simp_all
         try omega)

theorem rright_any (H : Hd) (w : World) (HA : HdAt w H) (hlc : H.lc ≤ 1000000) (hlf : H.lf ≤ 1000000) (hld : H.ld ≤ 1000000) :
    Calls Tryd.prog 17 #[.agg #[.int .i64 H.mem, .int .i64 H.stk, .int .i64 H.inp, .slice H.Ad H.ld H.cd, .slice H.Af H.lf H.cf, .slice H.Ac H.lc H.cc]] w fun e w' => e = .returned (.bool (decide (Im.chk H.p = 0))) ∧ Below w.heap.size w w' := by
  have hrc : ∀ W, Below w.heap.size w W → Calls Tryd.prog 31 #[.agg #[.int .i64 H.mem, .int .i64 H.stk, .int .i64 H.inp, .slice H.Ad H.ld H.cd, .slice H.Af H.lf H.cf, .slice H.Ac H.lc H.cc]] W fun e w' => e = .returned (.int .i64 (Im.chk H.p)) ∧ Below W.heap.size W w' := fun W hW => rcheck_any _ _ _ _ _ _ _ _ _ _ _ _ H.p W (HA.img.below hW) HA.e0 HA.e1 HA.e2 hlc hlf hld
  generalize Im.chk H.p = c at *
  have HRC := Lib.hid hrc
  clear hrc HA
  go_enter Tryd.func17, Tryd.ntmps17
  go_wp2_with fail
  have hB := Below.box w (.cells #[.int .i64 H.mem, .int .i64 H.stk, .int .i64 H.inp, .slice H.Ad H.ld H.cd, .slice H.Af H.lf H.cf, .slice H.Ac H.lc H.cc] 26)
  refine (HRC.out _ hB).mono ?_
  rintro e v ⟨rfl, hb⟩
  have HB := Lib.hid (hB.trans (hb.mono hB.size))
  clear hB hb
  go_wp2
  go_ret
  exact ⟨by first | rfl | simp, HB.out⟩
end Go.Proofs.YthkhadbeomkihaaDoor
namespace Go.Proofs.YthkhadbeomkihaaDoor
set_option maxRecDepth 100000
open Go.RowKit
namespace Mc
/-- The function in which a place is. -/
def fnA (p : Im.Pic) (q : Int) : Int := Im.fn p.fs p.cs.length q
/-- Open places, the last one first, as seen from a function. -/
def chain (p : Im.Pic) : Int → List Int → Prop
  | f, [] => f = 0
  | f, q :: r => (0 ≤ q - 1 ∧ q - 1 < p.cs.length ∧ (p.cs.getD (q - 1).toNat Im.z5).op = 23 ∧ (p.cs.getD (q - 1).toNat Im.z5).m = f) ∧ chain p (fnA p (q - 1)) r
theorem fn_same {p : Im.Pic} (h : R p) {k : Nat} (hk : k < p.cs.length) (hg : Cd.goes (p.cs.getD k Im.z5).op = true) : fnA p ((k : Int) + 1) = fnA p k := by
  have hC := h.cnt
  have hP := hC.2.2.2.2.2.2
  obtain ⟨h1, h2, h3⟩ := Im.own_spec hP hC.2.2.2.2.1.1 (p := (k : Int)) (by omega) (by omega)
  have hok := h.ok k hk
  unfold Im.okB at hok
  rw [hg] at hok
  simp only [Bool.and_eq_true, Bool.true_and, Bool.not_eq_true', decide_eq_false_iff_not] at hok
  unfold fnA
  rw [Im.fn_in hP h1 h2 h3, Im.fn_in hP h1 (by omega) (by omega)]
theorem fn_jump {p : Im.Pic} (h : R p) {k : Nat} (hk : k < p.cs.length) (hg : (p.cs.getD k Im.z5).op = 21 ∨ (p.cs.getD k Im.z5).op = 22) : fnA p (p.cs.getD k Im.z5).m = fnA p k := by
  have hC := h.cnt
  have hP := hC.2.2.2.2.2.2
  obtain ⟨h1, h2, h3⟩ := Im.own_spec hP hC.2.2.2.2.1.1 (p := (k : Int)) (by omega) (by omega)
  have hok := h.ok k hk
  unfold Im.okB at hok
  simp only [Bool.and_eq_true] at hok
  have hl := hok.1
  unfold Im.leads at hl
  rw [if_pos hg] at hl
  simp only [Bool.and_eq_true, decide_eq_true_eq] at hl
  unfold fnA
  rw [Im.fn_in hP h1 h2 h3, Im.fn_in hP h1 hl.1 hl.2]
theorem fn_call {p : Im.Pic} (h : R p) {n : Nat} (hn : n < p.fs.length) : fnA p (p.fs.getD n 0) = n := by
  have hP := h.cnt.2.2.2.2.2.2
  exact Im.fn_in hP hn (Int.le_refl _) (hP.lt_till hn)
theorem fn_zero {p : Im.Pic} (h : R p) : fnA p 0 = 0 := by
  have hP := h.cnt.2.2.2.2.2.2
  have := fn_call h (n := 0) (by have := h.cnt.2.2.2.2.1.1; omega)
  rw [hP.1] at this
  exact this
def Kc (p : Im.Pic) (r : St × Int × Int) : Prop := r.2.2 = 0 → chain p (fnA p r.2.1) r.1.op.reverse
theorem kc_ite {p : Im.Pic} {c : Prop} [Decidable c] {a b : St × Int × Int} (h1 : c → Kc p a) (h2 : ¬ c → Kc p b) : Kc p (if c then a else b) := by
  split
  · exact h1 ‹_›
  · exact h2 ‹_›
theorem kc_end {p : Im.Pic} {s : St} {nx en : Int} (h : en ≠ 0) : Kc p (s, nx, en) := fun e => absurd e h
theorem act_chain {p : Im.Pic} {xs : List Int} {s : St} {k : Nat} (hR : R p) (hW : Wc p) (hkl : k < p.cs.length) (hc : chain p (fnA p k) s.op.reverse) : Kc p (act p xs (p.cs.getD k Im.z5) s (k + 1)) := by
  have hbad := hR.bad k hkl
  have hld := right_leads hR hkl
  have hsm := fn_same hR hkl
  have hjm := fn_jump hR hkl
  have hw := hW k
  obtain ⟨i, hi⟩ : ∃ i, p.cs.getD k Im.z5 = i := ⟨_, rfl⟩
  rw [hi] at hbad hld hsm hjm hw ⊢
  obtain ⟨o0, o1, a0, a1, b0, b1, c0, c1⟩ := Cd.bad_none (show Cd.bad i.op i.a i.b i.c i.m = -1 from hbad)
  have hnx : i.op ≠ 0 → i.op ≠ 21 → i.op ≠ 24 → i.op ≠ 25 → fnA p ((k : Int) + 1) = fnA p k := fun h1 h2 h3 h4 => hsm (by
    simp [Cd.goes, Cd.exi, h1, h2, h3, h4]; omega)
  have st : ∀ (s' : St), s'.op = s.op → i.op ≠ 0 → i.op ≠ 21 → i.op ≠ 24 → i.op ≠ 25 → Kc p (s', (k : Int) + 1, 0) := fun s' e h1 h2 h3 h4 _ => by
    show chain p (fnA p ((k : Int) + 1)) s'.op.reverse
    rw [e, hnx h1 h2 h3 h4]
    exact hc
  unfold act
  refine kc_ite (fun e => kc_end (by decide)) (fun e0 => ?_)
  refine kc_ite (fun e => st _ rfl (by omega) (by omega) (by omega) (by omega)) (fun e1 => ?_)
  refine kc_ite (fun e => st _ rfl (by omega) (by omega) (by omega) (by omega)) (fun e2 => ?_)
  refine kc_ite (fun e => kc_ite (fun ht => st _ rfl (by omega) (by omega) (by omega) (by omega)) (fun _ => kc_end (by decide))) (fun e17 => ?_)
  refine kc_ite (fun e => kc_ite (fun ht => st _ rfl (by omega) (by omega) (by omega) (by omega)) (fun _ => kc_end (by decide))) (fun e18 => ?_)
  refine kc_ite (fun e => kc_ite (fun ht => st _ rfl (by omega) (by omega) (by omega) (by omega)) (fun _ => kc_end (by decide))) (fun e19 => ?_)
  refine kc_ite (fun e => st _ rfl (by omega) (by omega) (by omega) (by omega)) (fun e20 => ?_)
  refine kc_ite (fun e _ => by show chain p (fnA p i.m) s.op.reverse; rw [hjm (.inl e)]; exact hc) (fun e21 => ?_)
  refine kc_ite (fun e => kc_ite (fun _ => st _ rfl (by omega) (by omega) (by omega) (by omega)) (fun _ _ => by show chain p (fnA p i.m) s.op.reverse; rw [hjm (.inr e)]; exact hc)) (fun e22 => ?_)
  refine kc_ite (fun e => kc_ite (fun ht _ => ?_) (fun _ => kc_end (by decide))) (fun e23 => ?_)
  · have hm := hld.2 e
    obtain ⟨n, hn⟩ := Int.eq_ofNat_of_zero_le hw.1
    have hf := fn_call hR (n := n) (by omega)
    show chain p (fnA p (p.fs.getD i.m.toNat 0)) (s.op ++ [(k : Int) + 1]).reverse
    rw [show i.m.toNat = n by omega, hf, List.reverse_append]
    refine ⟨⟨by omega, by omega, ?_, ?_⟩, ?_⟩
    · rw [show ((k : Int) + 1 - 1).toNat = k by omega, hi]; exact e
    · rw [show ((k : Int) + 1 - 1).toNat = k by omega, hi]; exact hn
    · rw [show (k : Int) + 1 - 1 = k by omega]; exact hc
  refine kc_ite (fun e => kc_ite (fun _ => kc_end (by decide)) (fun hne _ => ?_)) (fun e24 => ?_)
  · have hs : s.op = s.op.dropLast ++ [s.op.getLast hne] := (List.dropLast_concat_getLast hne).symm
    have hl : s.op.getLastD 0 = s.op.getLast hne := by rw [List.getLastD_eq_getLast?, List.getLast?_eq_some_getLast hne]; rfl
    rw [hs, List.reverse_append] at hc
    obtain ⟨⟨g1, g2, g3, g4⟩, g5⟩ := hc
    show chain p (fnA p (s.op.getLastD 0)) s.op.dropLast.reverse
    rw [hl]
    generalize s.op.getLast hne = q at *
    obtain ⟨j, hj⟩ := Int.eq_ofNat_of_zero_le g1
    have hq : q = (j : Int) + 1 := by omega
    rw [hj, Int.toNat_natCast] at g3
    have := fn_same hR (k := j) (by omega) (by rw [g3]; decide)
    rw [hq, this, ← hj]
    exact g5
  refine kc_ite (fun e => kc_end (by decide)) (fun e25 => ?_)
  refine kc_ite (fun e => kc_end (by decide)) (fun _ => ?_)
  exact st _ rfl (by omega) (by omega) (by omega) (by omega)
theorem step_chain {p : Im.Pic} {xs : List Int} {s : St} (hR : R p) (hW : Wc p) (h : Ok p s) (hc : chain p (fnA p s.pl) s.op.reverse) (he : (step p xs s).2 = 0) : chain p (fnA p (step p xs s).1.pl) (step p xs s).1.op.reverse := by
  obtain ⟨k, hk⟩ := Int.eq_ofNat_of_zero_le h.p0
  have hkl : k < p.cs.length := by have := h.p1; omega
  have hi : ins p s = p.cs.getD k Im.z5 := by unfold ins; rw [hk]; simp
  rw [hk] at hc
  have := act_chain (xs := xs) hR hW hkl hc
  unfold Mc.step at he ⊢
  rw [hi, hk] at he ⊢
  split
  · rename_i h0
    exact this h0
  · rename_i h0
    rw [if_neg h0] at he
    exact absurd he h0
theorem start_chain {p : Im.Pic} (hR : R p) : chain p (fnA p (start p).pl) (start p).op.reverse := fn_zero hR
theorem chain_take {p : Im.Pic} {f : Int} {l : List Int} {n : Nat} (hn : n < l.length) (h : chain p f (l.take (n + 1)).reverse) : (0 ≤ l.getD n 0 - 1 ∧ l.getD n 0 - 1 < p.cs.length ∧ (p.cs.getD (l.getD n 0 - 1).toNat Im.z5).op = 23 ∧ (p.cs.getD (l.getD n 0 - 1).toNat Im.z5).m = f) ∧ chain p (fnA p (l.getD n 0 - 1)) (l.take n).reverse := by
  have : (l.take (n + 1)).reverse = l.getD n 0 :: (l.take n).reverse := by
    rw [List.take_add_one, List.reverse_append, List.getD_eq_getElem?_getD, List.getElem?_eq_getElem hn]
    rfl
  rw [this] at h
  exact h
end Mc
end Go.Proofs.YthkhadbeomkihaaDoor
namespace Go.Proofs.YthkhadbeomkihaaDoor
set_option maxRecDepth 100000
open Go.RowKit

set_option maxRecDepth 20000 in
set_option maxHeartbeats 12800000 in
theorem calls_walk (mem stk inp : Int) (Ad : Option Addr) (ld cd : Nat) (Af : Option Addr) (lf cf : Nat) (Ac : Option Addr) (lc cc : Nat) (P : Im.Pic) (Ai : Option Addr) (li ci : Nat) (xs : List Int) (steps : Int) (w : World) (ho : Ops w) (hi : ImAt w Ad ld cd Af lf cf Ac lc cc P) (e0 : P.mem = mem) (e1 : P.stk = stk) (e2 : P.inp = inp) (hx : BySl w Ai li ci xs) :
    Calls Tryd.prog 8 #[.agg #[.int .i64 mem, .int .i64 stk, .int .i64 inp, .slice Ad ld cd, .slice Af lf cf, .slice Ac lc cc], .slice Ai li ci, .int .i64 steps] w fun e w' => e = .returned (.bool true) ∧ Below w.heap.size w w' := by
  have hp := ho.pos
  have HA : HdAt w ⟨mem, stk, inp, Ad, ld, cd, Af, lf, cf, Ac, lc, cc, Ai, li, ci, P, xs⟩ := ⟨hi, e0, e1, e2, hx⟩
  have hld := Nat.le_trans hi.d.hle hi.d.hcap
  have hlf := Nat.le_trans hi.f.hle hi.f.hcap
  have hlc := Nat.le_trans hi.c.hle hi.c.hcap
  have hli := Nat.le_trans hx.hle hx.hcap
  have hgr := fun W => great_any mem stk inp Ad ld cd Af lf cf Ac lc cc Ai li ci steps W hld hlf hlc hli
  have hlcM := hlc
  unfold maxLen at hli hlc
  have haw : ∀ W, Below w.heap.size w W → Calls Tryd.prog 10 #[] W fun e w' => e = .returned (.bool true) ∧ Below W.heap.size W w' := fun W hW => mc_awake W (ho.below hW hp)
  have hstt : Mc.R P → ∀ W, Below w.heap.size w W → _ := fun hR W hW => Start_st ⟨mem, stk, inp, Ad, ld, cd, Af, lf, cf, Ac, lc, cc, Ai, li, ci, P, xs⟩ W (HA.below hW) hR
  have hstp : Mc.R P → ∀ s, Mc.Ok P s → ∀ W mA mn mcap oA on ocap, Below w.heap.size w W → BySl W mA mn mcap s.mm → InSl W oA on ocap s.op → _ := fun hR s hok W mA mn mcap oA on ocap hW hm hp' => Step_st ⟨mem, stk, inp, Ad, ld, cd, Af, lf, cf, Ac, lc, cc, Ai, li, ci, P, xs⟩ s mA mn mcap oA on ocap W (ho.below hW hp) (HA.below hW) hR hok hm hp'
  have hcl := hi.c.hlen
  have hil := hi.c
  have hlf1 := hi.f.hlen
  have hfn : Mc.R P → ∀ pl W, Below w.heap.size w W → Calls Tryd.prog 26 #[.agg #[.int .i64 mem, .int .i64 stk, .int .i64 inp, .slice Ad ld cd, .slice Af lf cf, .slice Ac lc cc], .int .i64 pl] W fun e w' => e = .returned (.int .i64 (Mc.fnA P pl)) ∧ Below W.heap.size W w' := fun hR pl W hW => by
    have hC := hR.cnt
    have := fun_any mem stk inp Ad ld cd Af lf cf Ac lc cc P.fs pl W (hi.f.below hW) (by rw [← hcl]; exact hC.2.2.2.2.2.2) (by have := hC.2.2.2.2.1.1; omega) hlcM
    rw [show Mc.fnA P pl = Im.fn P.fs lc pl by unfold Mc.fnA; rw [hcl]]
    exact this
  have hrt : greatB ld lf lc li steps = false → ∀ W, Below w.heap.size w W → Calls Tryd.prog 17 #[.agg #[.int .i64 mem, .int .i64 stk, .int .i64 inp, .slice Ad ld cd, .slice Af lf cf, .slice Ac lc cc]] W fun e w' => e = .returned (.bool (decide (Im.chk P = 0))) ∧ Below W.heap.size W w' := fun hg W hW => by
    unfold greatB fewB at hg
    simp at hg
    exact rright_any ⟨mem, stk, inp, Ad, ld, cd, Af, lf, cf, Ac, lc, cc, Ai, li, ci, P, xs⟩ W (HA.below hW) (by show lc ≤ _; omega) (by show lf ≤ _; omega) (by show ld ≤ _; omega)
  have hok0 : Mc.R P → Mc.Ok P (Mc.start P) := fun hR => Mc.mem0_ok hR hi.d.isB
  have hsk : Mc.R P → (xs.length : Int) ≤ P.inp → ∀ s, Mc.Ok P s → Mc.Ok P (Mc.step P xs s).1 := fun hR hl s h => h.step hR hi.c.rng hx.isB (by have := hR.cnt.2.2.1; omega)
  have hsc : Mc.R P → ∀ s, Mc.Ok P s → Mc.chain P (Mc.fnA P s.pl) s.op.reverse → (Mc.step P xs s).2 = 0 → Mc.chain P (Mc.fnA P (Mc.step P xs s).1.pl) (Mc.step P xs s).1.op.reverse := fun hR s h hc he => Mc.step_chain hR hi.c.rng h hc he
  have hxl := hx.hlen
  have hrng := hi.c.rng
  have hgs : greatB ld lf lc li steps = false → steps ≤ 300 := fun h => by
    unfold greatB at h
    simp at h
    omega
  have hq := hgr
  generalize greatB ld lf lc li steps = q at *
  have HGR := Lib.hid hq
  have HAW := Lib.hid haw
  have HRT := Lib.hid hrt
  have HFN := Lib.hid hfn
  have HSTT := Lib.hid hstt
  have HSTP := Lib.hid hstp
  have HOK0 := Lib.hid hok0
  have HSK := Lib.hid hsk
  have HSC := Lib.hid hsc
  have HXL := Lib.hid (And.intro hxl e2)
  have HIC := Lib.hid (And.intro hil hcl)
  have HRNG := Lib.hid hrng
  have HGS := Lib.hid hgs
  have HE1 := Lib.hid e1
  clear hq haw hrt hfn hstt hstp hok0 hsk hsc hxl hil hrng hgs e1 hgr hi hx HA e0 e2 ho hcl hlf1 hlcM
  go_enter Tryd.func8, Tryd.ntmps8
  go_wp2_with fail
  have hB0 := Below.box w (.cells #[.int .i64 mem, .int .i64 stk, .int .i64 inp, .slice Ad ld cd, .slice Af lf cf, .slice Ac lc cc] 26)
  have hX0 : (w.alloc (.cells #[.int .i64 mem, .int .i64 stk, .int .i64 inp, .slice Ad ld cd, .slice Af lf cf, .slice Ac lc cc] 26)).heap[w.heap.size]? = some (.cells #[.int .i64 mem, .int .i64 stk, .int .i64 inp, .slice Ad ld cd, .slice Af lf cf, .slice Ac lc cc] 26 (0, 0)) := heap_newM rfl
  have hz0 : w.heap.size < (w.alloc (.cells #[.int .i64 mem, .int .i64 stk, .int .i64 inp, .slice Ad ld cd, .slice Af lf cf, .slice Ac lc cc] 26)).heap.size := by simp
  generalize w.alloc (.cells #[.int .i64 mem, .int .i64 stk, .int .i64 inp, .slice Ad ld cd, .slice Af lf cf, .slice Ac lc cc] 26) = w0 at *
  refine (HAW.out _ hB0).mono ?_
  rintro e v ⟨rfl, hb⟩
  have HX1 := Lib.hid ((hb.block _ hz0).trans hX0)
  have HB1 := Lib.hid (hB0.trans (hb.mono hB0.size))
  have HZ1 := Lib.hid (Nat.lt_of_lt_of_le hz0 hb.size)
  clear hB0 hX0 hz0 hb
  have q0 := row_cell HX1.out 0
  have q1 := row_cell HX1.out 1
  have q2 := row_cell HX1.out 2
  have q3 := row_cell HX1.out 3
  have q4 := row_cell HX1.out 4
  have q5 := row_cell HX1.out 5
  simp at q0 q1 q2 q3 q4 q5
  go_wp2_with fail
  refine (HGR.out _).mono ?_
  rintro e v2 ⟨rfl, hb⟩
  have HX2 := Lib.hid ((hb.block _ HZ1.out).trans HX1.out)
  have HB2 := Lib.hid (HB1.out.trans (hb.mono HB1.out.size))
  have HZ2 := Lib.hid (Nat.lt_of_lt_of_le HZ1.out hb.size)
  clear hb
  clear q0 q1 q2 q3 q4 q5
  have q0 := row_cell HX2.out 0
  have q1 := row_cell HX2.out 1
  have q2 := row_cell HX2.out 2
  have q3 := row_cell HX2.out 3
  have q4 := row_cell HX2.out 4
  have q5 := row_cell HX2.out 5
  simp at q0 q1 q2 q3 q4 q5
  by_cases hq : q = true
  · subst hq
    go_wp2
    go_ret
    exact ⟨rfl, HB2.out⟩
  have hq : q = false := by simpa using hq
  subst hq
  have HRT' := Lib.hid (HRT.out rfl)
  have HG3 := Lib.hid (HGS.out rfl)
  clear HGS HRT
  go_wp2_with fail
  refine (HRT'.out _ HB2.out).mono ?_
  rintro e v3 ⟨rfl, hb⟩
  have HX3 := Lib.hid ((hb.block _ HZ2.out).trans HX2.out)
  have HB3 := Lib.hid (HB2.out.trans (hb.mono HB2.out.size))
  have HZ3 := Lib.hid (Nat.lt_of_lt_of_le HZ2.out hb.size)
  clear hb
  clear q0 q1 q2 q3 q4 q5
  have q0 := row_cell HX3.out 0
  have q1 := row_cell HX3.out 1
  have q2 := row_cell HX3.out 2
  have q3 := row_cell HX3.out 3
  have q4 := row_cell HX3.out 4
  have q5 := row_cell HX3.out 5
  simp at q0 q1 q2 q3 q4 q5
  by_cases hck : Im.chk P = 0
  case neg =>
    rw [decide_eq_false hck]
    clear hck
    go_wp2
    go_ret
    exact ⟨rfl, HB3.out⟩
  rw [decide_eq_true hck]
  have HR := Lib.hid (show Mc.R P from hck)
  clear hck
  by_cases hin : inp < li
  · go_wp2
    go_ret
    exact ⟨rfl, HB3.out⟩
  have hlx : (xs.length : Int) ≤ P.inp := by have := HXL.out; omega
  have HLX := Lib.hid hlx
  clear hlx
  go_wp2_with fail
  refine (HSTT.out HR.out _ HB3.out).mono ?_
  rintro e v5 ⟨mA, mcap, rfl, hmo, hb⟩
  have HX5 := Lib.hid ((hb.block _ HZ3.out).trans HX3.out)
  have HB5 := Lib.hid (HB3.out.trans (hb.mono HB3.out.size))
  have HZ5 := Lib.hid (Nat.lt_of_lt_of_le HZ3.out hb.size)
  have HMO := Lib.hid hmo
  clear hb q0 q1 q2 q3 q4 q5 hmo
  simp only [stC, show (Mc.start P).pl = 0 from rfl, show ∀ j, (Mc.start P).rg.getD j 0 = 0 from fun j => by match j with | 0 => rfl | 1 => rfl | 2 => rfl | 3 => rfl | 4 => rfl | 5 => rfl | 6 => rfl | 7 => rfl | (n+8) => rfl]
  obtain ⟨ml, hml⟩ : ∃ ml, (Mc.start P).mm.length = ml := ⟨_, rfl⟩
  have HML := Lib.hid hml
  rw [hml]
  clear hml
  go_wp2_with fail
  have hB6 := Below.box v5 (.cells #[.int .i64 0, .int .u64 0, .int .u64 0, .int .u64 0, .int .u64 0, .int .u64 0, .int .u64 0, .int .u64 0, .int .u64 0, .slice mA ml mcap, .slice none 0 0] 43)
  have hX6 : (v5.alloc (.cells #[.int .i64 0, .int .u64 0, .int .u64 0, .int .u64 0, .int .u64 0, .int .u64 0, .int .u64 0, .int .u64 0, .int .u64 0, .slice mA ml mcap, .slice none 0 0] 43)).heap[v5.heap.size]? = some (.cells #[.int .i64 0, .int .u64 0, .int .u64 0, .int .u64 0, .int .u64 0, .int .u64 0, .int .u64 0, .int .u64 0, .int .u64 0, .slice mA ml mcap, .slice none 0 0] 43 (0, 0)) := heap_newM rfl
  generalize v5.alloc (.cells #[.int .i64 0, .int .u64 0, .int .u64 0, .int .u64 0, .int .u64 0, .int .u64 0, .int .u64 0, .int .u64 0, .int .u64 0, .slice mA ml mcap, .slice none 0 0] 43) = w6 at *
  have HB56 := Lib.hid hB6
  have hs6 : StAt w6 v5.heap.size (Mc.start P) := by
    have hmo := own_below HMO.out hB6
    rw [HML.out] at hmo
    refine ⟨mA, mcap, none, 0, ?_, ?_, World.ownsRow_nil _ _ _ _, ?_, by simp [Value.ownBlock]⟩
    · rw [HML.out, hX6]; rfl
    · rw [HML.out]; exact Joins.ownsRow_le hmo (Nat.zero_le _)
    · intro e
      rw [HML.out] at e
      have := (HMO.out.lt v5.heap.size (by rw [HML.out]; exact e)).2
      omega
  have HS6 := Lib.hid hs6
  clear hs6 hX6 hB6
  go_loopw [8, 9, 10, 11, 12, 13] (fun i _ _ _ _ _ wr => ∃ k : Nat, (k : Int) ≤ 300 ∧ i = .int .i64 k ∧ Below v5.heap.size v5 wr ∧ ∃ s, StAt wr v5.heap.size s ∧ Mc.Ok P s ∧ Mc.chain P (Mc.fnA P s.pl) s.op.reverse) (fun i _ _ _ _ _ _ => 301 - (intOf i).toNat)
  case atStart => exact ⟨0, by omega, rfl, HB56.out, _, HS6.out, HOK0.out HR.out, Mc.start_chain HR.out⟩
  case round =>
    obtain ⟨k, hk, rfl, hbr, s, hsa, hokk, hch⟩ := hrel
    by_cases hks : (k : Int) < steps
    case neg =>
      have HBR := Lib.hid hbr
      clear hsa hokk hch hbr
      go_wp2
      go_ret
      exact ⟨rfl, HB5.out.trans (HBR.out.mono (by have := HB5.out.size; omega))⟩
    have HBR := Lib.hid hbr
    obtain ⟨sA, scap, oA, ocap, hrow, hsm, hso, hnm, hno⟩ := hsa
    have hBw := HB5.out.trans (hbr.mono (show w.heap.size ≤ v5.heap.size by have := HZ5.out; omega))
    have hcall : ∀ W, Below wr.heap.size wr W → _ := fun W hW => HSTP.out HR.out _ hokk W sA _ scap oA _ ocap (hBw.trans (hW.mono hBw.size)) (BySl.of_own (own_below hsm hW) hokk.mb) (InSl.of_own (own_below hso hW))
    have hokn := HSK.out HR.out HLX.out s hokk
    have hscn := HSC.out HR.out s hokk hch
    have hstk0 := hokk.ol
    clear hokk
    generalize Mc.step P xs s = r at *
    obtain ⟨⟨tp, tq, tm, to⟩, en'⟩ := r
    obtain ⟨sp, sr, sm, so⟩ := s
    simp only [stC] at hcall hrow hsm hso hnm hno hokn hscn hch hstk0
    generalize hsml : sm.length = sml at *
    generalize hsol : so.length = sol at *
    generalize html : tm.length = tml at *
    generalize htol : to.length = tol at *
    obtain ⟨z0, hz0⟩ : ∃ z, sr.getD 0 0 = z := ⟨_, rfl⟩
    obtain ⟨z1, hz1⟩ : ∃ z, sr.getD 1 0 = z := ⟨_, rfl⟩
    obtain ⟨z2, hz2⟩ : ∃ z, sr.getD 2 0 = z := ⟨_, rfl⟩
    obtain ⟨z3, hz3⟩ : ∃ z, sr.getD 3 0 = z := ⟨_, rfl⟩
    obtain ⟨z4, hz4⟩ : ∃ z, sr.getD 4 0 = z := ⟨_, rfl⟩
    obtain ⟨z5, hz5⟩ : ∃ z, sr.getD 5 0 = z := ⟨_, rfl⟩
    obtain ⟨z6, hz6⟩ : ∃ z, sr.getD 6 0 = z := ⟨_, rfl⟩
    obtain ⟨z7, hz7⟩ : ∃ z, sr.getD 7 0 = z := ⟨_, rfl⟩
    obtain ⟨y0, hy0⟩ : ∃ z, tq.getD 0 0 = z := ⟨_, rfl⟩
    obtain ⟨y1, hy1⟩ : ∃ z, tq.getD 1 0 = z := ⟨_, rfl⟩
    obtain ⟨y2, hy2⟩ : ∃ z, tq.getD 2 0 = z := ⟨_, rfl⟩
    obtain ⟨y3, hy3⟩ : ∃ z, tq.getD 3 0 = z := ⟨_, rfl⟩
    obtain ⟨y4, hy4⟩ : ∃ z, tq.getD 4 0 = z := ⟨_, rfl⟩
    obtain ⟨y5, hy5⟩ : ∃ z, tq.getD 5 0 = z := ⟨_, rfl⟩
    obtain ⟨y6, hy6⟩ : ∃ z, tq.getD 6 0 = z := ⟨_, rfl⟩
    obtain ⟨y7, hy7⟩ : ∃ z, tq.getD 7 0 = z := ⟨_, rfl⟩
    simp only [hz0, hz1, hz2, hz3, hz4, hz5, hz6, hz7, hy0, hy1, hy2, hy3, hy4, hy5, hy6, hy7] at hcall hrow
    obtain ⟨f0, hf0⟩ : ∃ f0, Mc.fnA P sp = f0 := ⟨_, rfl⟩
    rw [hf0] at hch
    have hstk : ¬ stk < (sol : Int) := by have h2 := HE1.out; omega
    have hs16 : (sol : Int) ≤ 16 := by have := HR.out.cnt.2.1; omega
    have HYS := Lib.hid (And.intro hy0 (And.intro hy1 (And.intro hy2 (And.intro hy3 (And.intro hy4 (And.intro hy5 (And.intro hy6 hy7)))))))
    have HCALL := Lib.hid hcall
    have HROW := Lib.hid hrow
    have HSO := Lib.hid hso
    have HOKN := Lib.hid hokn
    have HSCN := Lib.hid hscn
    have HCH := Lib.hid hch
    have HF0 := Lib.hid hf0
    have HLN := Lib.hid (And.intro (And.intro hsml hsol) (And.intro html htol))
    have hwl : w.heap.size < v5.heap.size := by have := HZ5.out; omega
    have hgsz := (Array.getElem?_eq_some_iff.1 hrow).1
    have HGSZ := Lib.hid hgsz
    have HBW := Lib.hid hBw
    have q0 := cells_below hbr (row_cell HX5.out 0) (hwl)
    have q1 := cells_below hbr (row_cell HX5.out 1) (hwl)
    have q2 := cells_below hbr (row_cell HX5.out 2) (hwl)
    have q3 := cells_below hbr (row_cell HX5.out 3) (hwl)
    have q4 := cells_below hbr (row_cell HX5.out 4) (hwl)
    have q5 := cells_below hbr (row_cell HX5.out 5) (hwl)
    simp at q0 q1 q2 q3 q4 q5
    have x0 := row_cell HROW.out 0
    simp at x0
    clear hcall hrow hsm hso hnm hno hokn hscn hch hstk0 hf0 hsml hsol html htol hgsz hBw hbr hz0 hz1 hz2 hz3 hz4 hz5 hz6 hz7 hy0 hy1 hy2 hy3 hy4 hy5 hy6 hy7
    go_wp2_with fail
    refine (HFN.out HR.out _ _ HBW.out).mono ?_
    rintro e v7 ⟨rfl, hb⟩
    rw [HF0.out]
    have HB7 := Lib.hid hb
    have hb57 : Below v5.heap.size v5 v7 := HBR.out.trans (hb.mono HBR.out.size)
    have HB57 := Lib.hid hb57
    have HROW7 := Lib.hid ((hb.block _ HGSZ.out).trans HROW.out)
    have x10 := row_cell HROW7.out 10
    simp at x10
    have wsol : IntKind.i64.wrap ((sol : Int) - 1) = sol - 1 := by rw [IntKind.wrap_i64]; omega
    have hg7 : v5.heap.size < v7.heap.size := by have := HGSZ.out; have := hb.size; omega
    have HG7 := Lib.hid hg7
    clear hb hb57 x0 q0 q1 q2 q3 q4 q5 hg7
    go_wp2_with fail
    go_loopw [9, 10, 11] (fun f i _ wx => ∃ (n : Nat) (zz fv : Int), n ≤ sol ∧ i = .int .i64 zz ∧ zz = (n : Int) - 1 ∧ f = .int .i64 fv ∧ Below v7.heap.size v7 wx ∧ Mc.chain P fv (so.take n).reverse) (fun _ i _ _ => (intOf i + 1).toNat)
    case atStart => exact ⟨sol, (sol : Int) - 1, f0, Nat.le_refl _, rfl, rfl, rfl, Below.refl _ _, by rw [← HLN.out.1.2, List.take_length]; exact HCH.out⟩
    case round =>
      rename World => wx
      obtain ⟨n, zz, fv, hn, rfl, hzz, rfl, hbx, hchx⟩ := hrel
      have HBX := Lib.hid hbx
      have hbwx : Below wr.heap.size wr wx := HB7.out.trans (hbx.mono HB7.out.size)
      have HBWX := Lib.hid hbwx
      have hb5x : Below v5.heap.size v5 wx := HBR.out.trans (hbwx.mono HBR.out.size)
      have hBwx : Below w.heap.size w wx := HBW.out.trans (hbwx.mono HBW.out.size)
      have HBWw := Lib.hid hBwx
      have hrowx := (hbx.block _ HG7.out).trans HROW7.out
      have HROWX := Lib.hid hrowx
      have hwl : w.heap.size < v5.heap.size := by have := HZ5.out; omega
      have q0 := cells_below hb5x (row_cell HX5.out 0) (hwl)
      have q1 := cells_below hb5x (row_cell HX5.out 1) (hwl)
      have q2 := cells_below hb5x (row_cell HX5.out 2) (hwl)
      have q3 := cells_below hb5x (row_cell HX5.out 3) (hwl)
      have q4 := cells_below hb5x (row_cell HX5.out 4) (hwl)
      have q5 := cells_below hb5x (row_cell HX5.out 5) (hwl)
      simp at q0 q1 q2 q3 q4 q5
      by_cases hz : n = 0
      · subst hz
        have hfv : fv = 0 := by simpa [Mc.chain] using hchx
        subst hfv
        have hzn : ¬ (0 : Int) ≤ zz := by omega
        have hsx := HCALL.out wx hbwx
        have HSX := Lib.hid hsx
        clear x10
        have x0 := row_cell hrowx 0
        have x1 := row_cell hrowx 1
        have x2 := row_cell hrowx 2
        have x3 := row_cell hrowx 3
        have x4 := row_cell hrowx 4
        have x5 := row_cell hrowx 5
        have x6 := row_cell hrowx 6
        have x7 := row_cell hrowx 7
        have x8 := row_cell hrowx 8
        have x9 := row_cell hrowx 9
        have x10 := row_cell hrowx 10
        simp at x0 x1 x2 x3 x4 x5 x6 x7 x8 x9 x10
        clear hbx hchx hbwx hb5x hBwx hrowx hsx hzz hn
        go_wp2_with fail
        refine HSX.out.mono ?_
        rintro e v9 ⟨mA', mcap', oA', ocap', rfl, ⟨hmo, hib⟩, hoo, hb⟩
        have HMO9 := Lib.hid hmo
        have HOO9 := Lib.hid hoo
        have HB9 := Lib.hid hb
        have hb59 : Below v5.heap.size v5 v9 := (HBR.out.trans (HBWX.out.mono HBR.out.size)).trans (hb.mono (by have := HBR.out.size; have := HBWX.out.size; omega))
        have HB59 := Lib.hid hb59
        have hgx : v5.heap.size < wx.heap.size := by have := HG7.out; have := HBX.out.size; omega
        have HGX := Lib.hid hgx
        have hrow9 : (v9.alloc (.cells #[.int .i64 tp, .int .u64 y0, .int .u64 y1, .int .u64 y2, .int .u64 y3, .int .u64 y4, .int .u64 y5, .int .u64 y6, .int .u64 y7, .slice mA' tml mcap', .slice oA' tol ocap'] 43)).heap[v5.heap.size]? = _ := ((Below.box v9 (.cells #[.int .i64 tp, .int .u64 y0, .int .u64 y1, .int .u64 y2, .int .u64 y3, .int .u64 y4, .int .u64 y5, .int .u64 y6, .int .u64 y7, .slice mA' tml mcap', .slice oA' tol ocap'] 43)).block _ (by have := hb.size; omega)).trans ((hb.block _ hgx).trans HROWX.out)
        have HX9 := Lib.hid hrow9
        have h1c : (#[.int .i64 tp, .int .u64 y0, .int .u64 y1, .int .u64 y2, .int .u64 y3, .int .u64 y4, .int .u64 y5, .int .u64 y6, .int .u64 y7, .slice mA' tml mcap', .slice oA' tol ocap'] : Array Value).all (·.oneCell') = true := by simp [Value.oneCell']
        have H1C := Lib.hid h1c
        clear hmo hib hoo hb hb59 hgx hrow9 h1c q0 q1 q2 q3 q4 q5 x0 x1 x2 x3 x4 x5 x6 x7 x8 x9 x10
        by_cases hen : en' = 0
        case neg =>
          have hbe : (en' != 0) = true := by simpa using hen
          clear hen
          go_wp2
          go_ret
          exact ⟨rfl, HB5.out.trans ((HB59.out.trans ((Below.box _ _).mono HB59.out.size)).mono (by have := HB5.out.size; omega))⟩
        have HCN := Lib.hid (HSCN.out hen)
        clear HSCN
        subst hen
        go_wp2_with (first | (with_reducible refine store_st (.tmp 7) (.tmp 108) _ _ #[.int .i64 tp, .int .u64 y0, .int .u64 y1, .int .u64 y2, .int .u64 y3, .int .u64 y4, .int .u64 y5, .int .u64 y6, .int .u64 y7, .slice mA' tml mcap', .slice oA' tol ocap'] HX9.out rfl rfl rfl rfl rfl rfl H1C.out ?_) | fail)
        go_roundw
        case rel =>
          have hB9 := Below.box v9 (.cells #[.int .i64 tp, .int .u64 y0, .int .u64 y1, .int .u64 y2, .int .u64 y3, .int .u64 y4, .int .u64 y5, .int .u64 y6, .int .u64 y7, .slice mA' tml mcap', .slice oA' tol ocap'] 43)
          have hne1 : ∀ q, (Value.slice mA' tml mcap').ownBlock = some q → q ≠ v5.heap.size := fun q hq => by have := (HMO9.out.lt q hq).1; have := HGX.out; omega
          have hne2 : ∀ q, (Value.slice oA' tol ocap').ownBlock = some q → q ≠ v5.heap.size := fun q hq => by have := (HOO9.out.lt q hq).1; have := HGX.out; omega
          refine ⟨k + 1, by have := HG3.out; omega, by go_num, below_setRowM (HB59.out.trans (hB9.mono HB59.out.size)) (Nat.le_refl _) _, ⟨tp, tq, tm, to⟩, ?_, HOKN.out, HCN.out⟩
          refine ⟨mA', mcap', oA', ocap', ?_, ?_, ?_, ?_, ?_⟩
          · simp only [stC, HLN.out.2.1, HLN.out.2.2, HYS.out.1, HYS.out.2.1, HYS.out.2.2.1, HYS.out.2.2.2.1, HYS.out.2.2.2.2.1, HYS.out.2.2.2.2.2.1, HYS.out.2.2.2.2.2.2.1, HYS.out.2.2.2.2.2.2.2]
            exact setRow_heap _ _ _ _ _ _ HX9.out
          · simp only [HLN.out.2.1]
            exact Joins.ownsRow_le (ownsRow.blk (own_below HMO9.out hB9) fun q hq => setRow_other _ _ _ _ (hne1 q hq)) (Nat.zero_le _)
          · simp only [HLN.out.2.2]
            exact Joins.ownsRow_le (ownsRow.blk (own_below HOO9.out hB9) fun q hq => setRow_other _ _ _ _ (hne2 q hq)) (Nat.zero_le _)
          · simp only [HLN.out.2.1]
            exact fun e => hne1 _ e rfl
          · simp only [HLN.out.2.2]
            exact fun e => hne2 _ e rfl
        case measure => simp [intOf]; omega
      · obtain ⟨m, rfl⟩ : ∃ m, n = m + 1 := ⟨n - 1, by omega⟩
        obtain rfl : zz = (m : Int) := by omega
        have hml : m < so.length := by rw [HLN.out.1.2]; omega
        obtain ⟨⟨g1, g2, g3, g4⟩, g5⟩ := Mc.chain_take hml hchx
        obtain ⟨qv, hqv⟩ : ∃ qv, so.getD m 0 = qv := ⟨_, rfl⟩
        rw [hqv] at g1 g2 g3 g4 g5
        obtain ⟨j, hj⟩ := Int.eq_ofNat_of_zero_le g1
        rw [hj] at g2 g3 g4 g5
        rw [Int.toNat_natCast] at g3 g4
        have hjl : j < lc := by have := HIC.out.2; omega
        obtain ⟨ob, oo, rfl, hob, hco⟩ := (InSl.of_own (own_below HSO.out hbwx)).mem (by omega)
        have co := hco m (by omega)
        rw [hqv] at co
        obtain ⟨bc, oc, rfl, hbc, hcc⟩ := (HIC.out.1.below hBwx).mem (by omega)
        have cop := (hcc j hjl).1
        have cim := (hcc j hjl).2.2.2.2
        rw [g3] at cop
        rw [g4] at cim
        have hrj := HRNG.out j
        rw [g4] at hrj
        have hwf : IntKind.u64.wrap fv = fv := by rw [IntKind.wrap_u64]; omega
        have hwq : IntKind.i64.wrap (qv - 1) = (j : Int) := by rw [IntKind.wrap_i64]; omega
        have hjc : ¬ (lc : Int) ≤ j := by omega
        have hjz : ¬ (j : Int) < 0 := by omega
        have hjn : j < lc := hjl
        have wm : IntKind.i64.wrap ((m : Int) - 1) = m - 1 := by rw [IntKind.wrap_i64]; omega
        have hmz : (0 : Int) ≤ m := by omega
        have hmn : m < sol := by omega
        have x10 := row_cell hrowx 10
        simp at x10
        have HG5 := Lib.hid g5
        have HMN := Lib.hid hmn
        clear hbx hchx hbwx hb5x hrowx hzz hn g1 g2 g3 g4 g5 hj hqv hco hcc hrj hob hbc hml
        go_wp2_with fail
        refine (HFN.out HR.out _ _ hBwx).mono ?_
        rintro e v8 ⟨rfl, hb⟩
        have HB8 := Lib.hid (HBX.out.trans (hb.mono HBX.out.size))
        clear hb q0 q1 q2 q3 q4 q5 x10 co cop cim
        go_wp2_with fail
        go_roundw
        case rel => exact ⟨m, (m : Int) - 1, _, by have := HMN.out; omega, by go_num, rfl, rfl, HB8.out, HG5.out⟩
        case measure => simp [intOf]
end Go.Proofs.YthkhadbeomkihaaDoor
