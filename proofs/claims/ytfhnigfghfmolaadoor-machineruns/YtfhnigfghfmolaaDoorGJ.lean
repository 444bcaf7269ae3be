/-
  In which function a place is: plain facts (as in the layer below).
  The reference's in, Fun and Stray.
  The reference's Check.
-/
import Derived.Test.YtfhnigfghfmolaaDoorGG
import Derived.Test.YtfhnigfghfmolaaDoorGE
set_option linter.unusedSimpArgs false
set_option linter.unusedVariables false
namespace Go.Proofs.YtfhnigfghfmolaaDoor
set_option maxRecDepth 100000
open Go.RowKit

namespace Im
theorem fn_in {fs : List Int} {nc : Nat} {pl : Int} {n : Nat} (hP : Places fs nc) (hn : n < fs.length) (h1 : fs.getD n 0 ≤ pl) (h2 : pl < till fs nc n) : fn fs nc pl = n := by
  have h3 := hP.nonneg hn
  have h4 := hP.till_le hn
  unfold fn
  rw [if_pos ⟨by omega, by omega⟩, own_eq hP hn h1 h2]
theorem fn_out {fs : List Int} {nc : Nat} {pl : Int} (h : pl < 0 ∨ (nc : Int) ≤ pl) : fn fs nc pl = -1 := by
  unfold fn
  rw [if_neg (by omega)]
theorem fn_mono {fs : List Int} {nc : Nat} (hP : Places fs nc) (hl : 1 ≤ fs.length) {k : Nat} (h : k + 1 < nc) {n : Nat} (hn : n < fs.length) (h1 : fs.getD n 0 ≤ (k : Int) + 1) (h2 : (k : Int) + 1 < till fs nc n) : ∃ n' : Nat, fn fs nc k = n' ∧ n' ≤ n := by
  obtain ⟨n', g1, g2, g3⟩ := own_ex hP hl (p := (k : Int)) (by omega) (by omega)
  refine ⟨n', fn_in hP g1 g2 g3, ?_⟩
  rcases Nat.lt_or_ge n n' with h3 | h3
  · have := hP.apart g1 h3
    omega
  · exact h3
end Im
end Go.Proofs.YtfhnigfghfmolaaDoor
namespace Go.Proofs.YtfhnigfghfmolaaDoor
set_option maxRecDepth 100000
open Go.RowKit

set_option maxHeartbeats 400000 in
theorem rin_any (x lo hi : Int) (w : World) :
    Calls Tryd.prog 47 #[.int .i64 x, .int .i64 lo, .int .i64 hi] w fun e w' => e = .returned (.bool (decide (lo ≤ x) && decide (x ≤ hi))) ∧ w = w' := by
  go_enter Tryd.func47, Tryd.ntmps47
  go_wp2
  all_goals
    go_ret
    refine ⟨ret_bool ?_, rfl⟩
    simp_all
    try (intro h; omega)

set_option maxHeartbeats 800000 in
theorem rfun_any (mem stk inp : Int) (Ad : Option Addr) (ld cd : Nat) (Af : Option Addr) (lf cf : Nat) (Ac : Option Addr) (lc cc : Nat) (fs : List Int) (pl : Int) (w : World) (hf : InSl w Af lf cf fs) (hP : Im.Places fs lc) (hn : 1 ≤ lf) (hc2 : lc ≤ maxLen) :
    Calls Tryd.prog 33 #[.agg #[.int .i64 mem, .int .i64 stk, .int .i64 inp, .slice Ad ld cd, .slice Af lf cf, .slice Ac lc cc], .int .i64 pl] w fun e w' => e = .returned (.int .i64 (Im.fn fs lc pl)) ∧ Below w.heap.size w w' := by
  have hfl := Lib.hid hf.hlen
  have hf2 := Nat.le_trans hf.hle hf.hcap
  have HPP := Lib.hid hP
  unfold maxLen at hf2 hc2
  obtain ⟨b, o, rfl, hbf, hcf⟩ := hf.mem (by omega)
  have hne : b ≠ w.heap.size := by omega
  have HCF := Lib.hid hcf
  have H0 := Lib.hid (Below.box w (.cells #[.int .i64 mem, .int .i64 stk, .int .i64 inp, .slice Ad ld cd, .slice (some ⟨b, o, none⟩) lf cf, .slice Ac lc cc] 26))
  clear hf hP hcf
  by_cases hin : 0 ≤ pl ∧ pl < lc
  · obtain ⟨p0, p1⟩ := hin
    go_enter Tryd.func33, Tryd.ntmps33
    go_wp2
    go_loop [5, 6] (fun f i => ∃ k : Nat, k ≤ lf ∧ i = .int .i64 k ∧ ∃ fv : Int, f = .int .i64 fv ∧ ((fv = -1 ∧ k = 0) ∨ ∃ n : Nat, n < k ∧ fv = n ∧ fs.getD n 0 ≤ pl ∧ ∀ j, n < j → j < k → pl < fs.getD j 0)) (fun _ i => lf - (intOf i).toNat)
    case atStart => exact ⟨0, by omega, rfl, -1, rfl, .inl ⟨rfl, rfl⟩⟩
    case round =>
      obtain ⟨k, hk, rfl, fv, rfl, hfv⟩ := hrel
      have HFV := Lib.hid hfv
      clear hfv
      by_cases hlt : k < lf
      · have d0 := HCF.out k hlt
        have hki : (k : Int) < lf := by omega
        have hz : ∃ z, fs.getD k 0 = z := ⟨_, rfl⟩
        obtain ⟨z, hz⟩ := hz
        rw [hz] at d0
        have HZ := Lib.hid hz
        clear hz
        by_cases hzp : z ≤ pl
        · go_wp2
          go_round
          case rel => exact ⟨k + 1, by omega, by go_num, k, rfl, .inr ⟨k, by omega, rfl, by rw [HZ.out]; exact hzp, fun j h1 h2 => absurd h2 (by omega)⟩⟩
          case measure => simp [intOf]; omega
        · go_wp2
          go_round
          case rel =>
            refine ⟨k + 1, by omega, by go_num, fv, rfl, ?_⟩
            rcases HFV.out with ⟨_, h0⟩ | ⟨n, h1, h2, h3, h4⟩
            · exfalso
              subst h0
              have := HPP.out.1
              rw [HZ.out] at this
              omega
            · refine .inr ⟨n, by omega, h2, h3, fun j g1 g2 => ?_⟩
              rcases Nat.lt_succ_iff_lt_or_eq.1 g2 with h | h
              · exact h4 j g1 h
              · rw [h, HZ.out]; omega
          case measure => simp [intOf]; omega
      · have hkl : k = lf := by omega
        have HK := Lib.hid hkl
        clear hkl
        go_wp2
        go_ret
        refine ⟨cret_int ?_, H0.out⟩
        rcases HFV.out with ⟨_, h0⟩ | ⟨n, h1, h2, h3, h4⟩
        · have := HK.out
          omega
        · have hkk := HK.out
          have hll := hfl.out
          rw [h2, Im.fn_in HPP.out (n := n) (by omega) h3 ?_]
          rcases Nat.lt_or_ge (n + 1) fs.length with g | g
          · rw [Im.till_in g]
            exact h4 (n + 1) (by omega) (by omega)
          · rw [Im.till_last g]
            exact p1
  · have hfn : Im.fn fs lc pl = -1 := by unfold Im.fn; rw [if_neg hin]
    rw [hfn]
    clear hfn
    by_cases p0 : pl < 0
    · go_enter Tryd.func33, Tryd.ntmps33
      go_wp2
      go_ret
      exact ⟨rfl, H0.out⟩
    · have p1 : (lc : Int) ≤ pl := by omega
      clear hin
      go_enter Tryd.func33, Tryd.ntmps33
      go_wp2
      go_ret
      exact ⟨rfl, H0.out⟩

namespace Im
/-- The first instruction by which it doesn't flow; -1: none. -/
def st (fs : List Int) (cs : List I5) : Int := if stray fs cs < cs.length then stray fs cs else -1
theorem st_at {fs : List Int} {cs : List I5} {k : Nat} (hk : k < cs.length) (h : okB fs cs k = false) (hn : ∀ j, j < k → okB fs cs j = true) : st fs cs = k := by
  unfold st
  rw [stray_at hk h hn, if_pos hk]
theorem st_none {fs : List Int} {cs : List I5} (hn : ∀ j, j < cs.length → okB fs cs j = true) : st fs cs = -1 := by
  unfold st
  rw [stray_none hn, if_neg (Nat.lt_irrefl _)]
end Im

set_option maxRecDepth 10000 in
set_option maxHeartbeats 8000000 in
theorem rstray_any (mem stk inp : Int) (Ad : Option Addr) (ld cd : Nat) (Af : Option Addr) (lf cf : Nat) (Ac : Option Addr) (lc cc : Nat) (p : Im.Pic) (w : World) (hi : ImAt w Ad ld cd Af lf cf Ac lc cc p) (hP : Im.Places p.fs lc) (hlf1 : 1 ≤ lf) (hlc1 : 1 ≤ lc) (hlc2 : lc ≤ 1000000) (hlf2 : lf ≤ 1000000) :
    Calls Tryd.prog 49 #[.agg #[.int .i64 mem, .int .i64 stk, .int .i64 inp, .slice Ad ld cd, .slice Af lf cf, .slice Ac lc cc]] w fun e w' => e = .returned (.int .i64 (Im.st p.fs p.cs)) ∧ Below w.heap.size w w' := by
  have HFUN : ∀ (pl : Int) (W : World), InSl W Af lf cf p.fs → Calls Tryd.prog 33 #[.agg #[.int .i64 mem, .int .i64 stk, .int .i64 inp, .slice Ad ld cd, .slice Af lf cf, .slice Ac lc cc], .int .i64 pl] W fun e w' => e = .returned (.int .i64 (Im.fn p.fs lc pl)) ∧ Below W.heap.size W w' := fun pl W h => rfun_any mem stk inp Ad ld cd Af lf cf Ac lc cc p.fs pl W h hP hlf1 (by unfold maxLen; omega)
  have HF := Lib.hid HFUN
  have HPP := Lib.hid hP
  have HFL := Lib.hid hi.f.hlen
  have HCL := Lib.hid hi.c.hlen
  have HIM := Lib.hid hi
  obtain ⟨bc, oc, rfl, hbc, hcc⟩ := hi.c.mem (by omega)
  have HCC := Lib.hid hcc
  have HBC := Lib.hid hbc
  have H0 := Lib.hid (Below.box w (.cells #[.int .i64 mem, .int .i64 stk, .int .i64 inp, .slice Ad ld cd, .slice Af lf cf, .slice (some ⟨bc, oc, none⟩) lc cc] 26))
  have b0 : (w.alloc (.cells #[.int .i64 mem, .int .i64 stk, .int .i64 inp, .slice Ad ld cd, .slice Af lf cf, .slice (some ⟨bc, oc, none⟩) lc cc] 26)).cell? ⟨w.heap.size, 0, none⟩ = some (.int .i64 mem) := by simp
  have b1 : (w.alloc (.cells #[.int .i64 mem, .int .i64 stk, .int .i64 inp, .slice Ad ld cd, .slice Af lf cf, .slice (some ⟨bc, oc, none⟩) lc cc] 26)).cell? ⟨w.heap.size, 1, none⟩ = some (.int .i64 stk) := by simp
  have b2 : (w.alloc (.cells #[.int .i64 mem, .int .i64 stk, .int .i64 inp, .slice Ad ld cd, .slice Af lf cf, .slice (some ⟨bc, oc, none⟩) lc cc] 26)).cell? ⟨w.heap.size, 2, none⟩ = some (.int .i64 inp) := by simp
  have b3 : (w.alloc (.cells #[.int .i64 mem, .int .i64 stk, .int .i64 inp, .slice Ad ld cd, .slice Af lf cf, .slice (some ⟨bc, oc, none⟩) lc cc] 26)).cell? ⟨w.heap.size, 3, none⟩ = some (.slice Ad ld cd) := by simp
  have b4 : (w.alloc (.cells #[.int .i64 mem, .int .i64 stk, .int .i64 inp, .slice Ad ld cd, .slice Af lf cf, .slice (some ⟨bc, oc, none⟩) lc cc] 26)).cell? ⟨w.heap.size, 4, none⟩ = some (.slice Af lf cf) := by simp
  have b5 : (w.alloc (.cells #[.int .i64 mem, .int .i64 stk, .int .i64 inp, .slice Ad ld cd, .slice Af lf cf, .slice (some ⟨bc, oc, none⟩) lc cc] 26)).cell? ⟨w.heap.size, 5, none⟩ = some (.slice (some ⟨bc, oc, none⟩) lc cc) := by simp
  have G0 := Lib.hid b0
  have G1 := Lib.hid b1
  have G2 := Lib.hid b2
  have G3 := Lib.hid b3
  have G4 := Lib.hid b4
  have G5 := Lib.hid b5
  clear b0 b1 b2 b3 b4 b5 hcc hbc HFUN hP hi
  go_enter Tryd.func49, Tryd.ntmps49
  go_wp2
  go_loopw [3] (fun i wr => ∃ k : Nat, k ≤ lc ∧ i = .int .i64 k ∧ Below (w.heap.size + 1) (w.alloc (.cells #[.int .i64 mem, .int .i64 stk, .int .i64 inp, .slice Ad ld cd, .slice Af lf cf, .slice (some ⟨bc, oc, none⟩) lc cc] 26)) wr ∧ ∀ j, j < k → Im.okB p.fs p.cs j = true) (fun i _ => lc - (intOf i).toNat)
  case atStart => exact ⟨0, by omega, rfl, Below.refl _ _, fun j hj => absurd hj (by omega)⟩
  case round =>
    obtain ⟨k, hk, rfl, hbr, hall⟩ := hrel
    have c0 := cells_below hbr G0.out (by simp)
    have c1 := cells_below hbr G1.out (by simp)
    have c2 := cells_below hbr G2.out (by simp)
    have c3 := cells_below hbr G3.out (by simp)
    have c4 := cells_below hbr G4.out (by simp)
    have c5 := cells_below hbr G5.out (by simp)
    have hszw : w.heap.size < wr.heap.size := by have := hbr.size; simp at this; omega
    have HR := Lib.hid hbr
    have HA := Lib.hid hall
    clear hbr hall
    by_cases hlt : k < lc
    · have hki : (k : Int) < lc := by omega
      have hins : InsAt wr bc (oc + k * 5) (p.cs.getD k Im.z5) := ((HCC.out k hlt).keep fun o => H0.out.cell (p := ⟨bc, o, none⟩) HBC.out).keep fun o => HR.out.cell (p := ⟨bc, o, none⟩) (Nat.lt_succ_of_lt HBC.out)
      have hrng := HIM.out.c.rng k
      have hbcn : bc ≠ wr.heap.size := by have h1 := HBC.out; omega
      have hI5 : ∃ i, p.cs.getD k Im.z5 = i := ⟨_, rfl⟩
      obtain ⟨⟨op, a, b, c, m⟩, hei⟩ := hI5
      rw [hei] at hins hrng
      obtain ⟨x0, x1, x2, x3, x4⟩ := hins
      simp only at x0 x1 x2 x3 x4 hrng
      obtain ⟨hr0, hr1⟩ := hrng
      obtain ⟨nn, hn0, hn1, hn2⟩ := Im.own_ex HPP.out (by have := HFL.out; omega) (p := (k : Int)) (by omega) hki
      have hfk : Im.fn p.fs lc k = nn := Im.fn_in HPP.out hn0 hn1 hn2
      have hokk := Im.okB_eq (fs := p.fs) (cs := p.cs) (by rw [HCL.out]; exact HPP.out) hn0 hn1 (by rw [HCL.out]; exact hn2) hei
      rw [HCL.out, HFL.out] at hokk
      have htl := HPP.out.till_le hn0
      have hfn0 := HPP.out.nonneg hn0
      have hfg : ¬ (k : Int) + 1 = Im.till p.fs lc nn → Cd.goes op = true → ¬ (k : Int) + 1 = lc ∧ Im.fn p.fs lc ((k : Int) + 1) = nn := fun h2 _ => ⟨by omega, Im.fn_in HPP.out hn0 (by omega) (by omega)⟩
      have hnx : (k : Int) + 1 = Im.till p.fs lc nn → ¬ (k : Int) + 1 = lc → Im.fn p.fs lc ((k : Int) + 1) = ((nn + 1 : Nat) : Int) := fun h1 h2 => by
        have h3 : nn + 1 < p.fs.length := by
          rcases Nat.lt_or_ge (nn + 1) p.fs.length with g | g
          · exact g
          · rw [Im.till_last g] at h1
            exact absurd h1 h2
        rw [Im.till_in h3] at h1
        refine Im.fn_in HPP.out h3 (by omega) ?_
        have := HPP.out.lt_till h3
        omega
      have hfm : ¬ (p.fs.getD nn 0 ≤ m ∧ m < Im.till p.fs lc nn) → ¬ Im.fn p.fs lc m = nn := fun h1 h2 => by
        unfold Im.fn at h2
        split at h2
        · rename_i h3
          obtain ⟨g1, g2, g3⟩ := Im.own_spec HPP.out (by have := HFL.out; omega) h3.1 h3.2
          have : Im.own p.fs lc m = nn := by omega
          rw [this] at g2 g3
          exact h1 ⟨g2, g3⟩
        · omega
      have hzz : ∃ z z1, p.fs.getD nn 0 = z ∧ Im.till p.fs lc nn = z1 := ⟨_, _, rfl, rfl⟩
      obtain ⟨z, z1, hz, hz1⟩ := hzz
      rw [hz] at hn1 hokk hfn0 hfm
      rw [hz1] at hn2 hokk htl hfg hnx hfm
      have hopk : Im.leads ⟨op, a, b, c, m⟩ z z1 lf = true → (((op = 21 ∨ op = 22) ∧ 0 ≤ m ∧ m < lc ∧ Im.fn p.fs lc m = nn) ∨ (op = 23 ∧ 0 ≤ m ∧ m < lf) ∨ (op ≠ 21 ∧ op ≠ 22 ∧ op ≠ 23)) := fun hld => by
        unfold Im.leads at hld
        by_cases hj : op = 21 ∨ op = 22
        · rw [if_pos hj] at hld
          simp only [Bool.and_eq_true, decide_eq_true_eq] at hld
          exact .inl ⟨hj, by omega, by omega, Im.fn_in HPP.out hn0 (by rw [hz]; exact hld.1) (by rw [hz1]; exact hld.2)⟩
        · rw [if_neg hj] at hld
          by_cases h23 : op = 23
          · rw [if_pos h23] at hld
            exact .inr (.inl ⟨h23, by omega, of_decide_eq_true hld⟩)
          · exact .inr (.inr ⟨fun h => hj (.inl h), fun h => hj (.inr h), h23⟩)
      have HFG := Lib.hid hfg
      have HNX := Lib.hid hnx
      have HFM := Lib.hid hfm
      have HI := Lib.hid ((HIM.out.f.below H0.out).below (HR.out.mono (by simp)) |>.below (Below.box wr (.cells #[.int .i64 op, .int .i64 a, .int .i64 b, .int .i64 c, .int .u64 m] 59)))
      clear hfg hei hz hz1 hnx hfm
      go_wp2_with fail
      refine (HF.out _ _ HI.out).mono ?_
      rintro e v ⟨rfl, hbv⟩
      rw [hfk]
      have y0 : v.cell? ⟨wr.heap.size, 0, none⟩ = some (.int .i64 op) := cells_below hbv (by simp) (by simp)
      have y4 : v.cell? ⟨wr.heap.size, 4, none⟩ = some (.int .u64 m) := cells_below hbv (by simp) (by simp)
      have hbv' : Below wr.heap.size wr v := (Below.box _ _).trans (hbv.mono (by simp))
      replace c0 := cells_below hbv' c0 hszw
      replace c1 := cells_below hbv' c1 hszw
      replace c2 := cells_below hbv' c2 hszw
      replace c3 := cells_below hbv' c3 hszw
      replace c4 := cells_below hbv' c4 hszw
      replace c5 := cells_below hbv' c5 hszw
      replace HI := Lib.hid (HI.out.below hbv)
      have HV := Lib.hid (HR.out.trans (hbv'.mono (by omega)))
      have LT : Hid (w.heap.size < v.heap.size) := Nat.lt_of_lt_of_le hszw hbv'.size
      have LT2 : Hid (wr.heap.size < v.heap.size) := by have := hbv.size; simp at this; exact this
      clear hbv hbv' x0 x1 x2 x3 x4 HR
      have hwu : IntKind.u64.wrap (lc : Int) = lc := by rw [IntKind.wrap_u64]; omega
      have hwf : IntKind.u64.wrap (lf : Int) = lf := by rw [IntKind.wrap_u64]; omega
      go_wp2_with fail
      cases hob : Im.okB p.fs p.cs k with
      | true =>
        have HOKK := Lib.hid hob
        rw [hob] at hokk
        replace hokk := hokk.symm
        simp only [Bool.and_eq_true, Bool.not_eq_true', Bool.and_eq_false_iff] at hokk
        obtain ⟨hld, hgg⟩ := hokk
        have hop := hopk hld
        have hfg' : Cd.goes op = true → ¬ (k : Int) + 1 = lc ∧ Im.fn p.fs lc ((k : Int) + 1) = nn := fun hgo => HFG.out (by
          rcases hgg with h | h
          · rw [hgo] at h; cases h
          · exact of_decide_eq_false h) hgo
        replace HFG := Lib.hid hfg'
        clear hld hgg hopk hob hfg'
        rcases hop with ⟨hj, hm1, hm2, hfm⟩ | ⟨hj1, hm1, hm2⟩ | ⟨hj1, hj2, hj3⟩
        · have hw : IntKind.i64.wrap m = m := by rw [IntKind.wrap_i64]; omega
          rcases hj with hj | hj
          · subst hj
            have hgo : Cd.goes 21 = false := by decide +kernel
            refine (rgoes_any _ _).mono ?_
            rintro e w9 ⟨rfl, rfl⟩
            rw [hgo]
            clear hgo
            go_wp2_with fail
            refine (HF.out _ _ HI.out).mono ?_
            rintro e v9 ⟨rfl, hbv⟩
            have l1 : w.heap.size < v.heap.size := LT.out
            have l2 : wr.heap.size < v.heap.size := LT2.out
            replace c0 := cells_below hbv c0 l1
            replace c1 := cells_below hbv c1 l1
            replace c2 := cells_below hbv c2 l1
            replace c3 := cells_below hbv c3 l1
            replace c4 := cells_below hbv c4 l1
            replace c5 := cells_below hbv c5 l1
            replace y0 := cells_below hbv y0 l2
            replace y4 := cells_below hbv y4 l2
            replace HI := Lib.hid (HI.out.below hbv)
            replace HV := Lib.hid (HV.out.trans (hbv.mono (by omega)))
            replace LT := Lib.hid (Nat.lt_of_lt_of_le l1 hbv.size)
            replace LT2 := Lib.hid (Nat.lt_of_lt_of_le l2 hbv.size)
            clear hbv l1 l2
            rw [hfm]
            clear hfm
            have hnn : ((nn : Int) != (nn : Int)) = false := by simp
            go_wp2
            go_roundw
            case rel =>
              refine ⟨k + 1, by omega, by go_num, HV.out, fun j hj => ?_⟩
              rcases Nat.lt_succ_iff_lt_or_eq.1 hj with h | h
              · exact HA.out j h
              · rw [h]; exact HOKK.out
            case measure => simp [intOf]; omega
          · subst hj
            have hgo : Cd.goes 22 = true := by decide +kernel
            obtain ⟨hne, hfg⟩ := HFG.out hgo
            have hne' : ((k : Int) + 1 == (lc : Int)) = false := by simpa using hne
            have hnn : ((nn : Int) != (nn : Int)) = false := by simp
            refine (rgoes_any _ _).mono ?_
            rintro e w9 ⟨rfl, rfl⟩
            rw [hgo]
            clear hgo hne
            go_wp2_with fail
            refine (HF.out _ _ HI.out).mono ?_
            rintro e v8 ⟨rfl, hbv⟩
            have l1 : w.heap.size < v.heap.size := LT.out
            have l2 : wr.heap.size < v.heap.size := LT2.out
            replace c0 := cells_below hbv c0 l1
            replace c1 := cells_below hbv c1 l1
            replace c2 := cells_below hbv c2 l1
            replace c3 := cells_below hbv c3 l1
            replace c4 := cells_below hbv c4 l1
            replace c5 := cells_below hbv c5 l1
            replace y0 := cells_below hbv y0 l2
            replace y4 := cells_below hbv y4 l2
            replace HI := Lib.hid (HI.out.below hbv)
            replace HV := Lib.hid (HV.out.trans (hbv.mono (by omega)))
            replace LT := Lib.hid (Nat.lt_of_lt_of_le l1 hbv.size)
            replace LT2 := Lib.hid (Nat.lt_of_lt_of_le l2 hbv.size)
            clear hbv l1 l2
            rw [hfg]
            clear hfg
            go_wp2_with fail
            refine (HF.out _ _ HI.out).mono ?_
            rintro e v9 ⟨rfl, hbv⟩
            have l1 : w.heap.size < v8.heap.size := LT.out
            have l2 : wr.heap.size < v8.heap.size := LT2.out
            replace c0 := cells_below hbv c0 l1
            replace c1 := cells_below hbv c1 l1
            replace c2 := cells_below hbv c2 l1
            replace c3 := cells_below hbv c3 l1
            replace c4 := cells_below hbv c4 l1
            replace c5 := cells_below hbv c5 l1
            replace y0 := cells_below hbv y0 l2
            replace y4 := cells_below hbv y4 l2
            replace HI := Lib.hid (HI.out.below hbv)
            replace HV := Lib.hid (HV.out.trans (hbv.mono (by omega)))
            replace LT := Lib.hid (Nat.lt_of_lt_of_le l1 hbv.size)
            replace LT2 := Lib.hid (Nat.lt_of_lt_of_le l2 hbv.size)
            clear hbv l1 l2
            rw [hfm]
            clear hfm
            go_wp2
            go_roundw
            case rel =>
              refine ⟨k + 1, by omega, by go_num, HV.out, fun j hj => ?_⟩
              rcases Nat.lt_succ_iff_lt_or_eq.1 hj with h | h
              · exact HA.out j h
              · rw [h]; exact HOKK.out
            case measure => simp [intOf]; omega
        · subst hj1
          have hgo : Cd.goes 23 = true := by decide +kernel
          obtain ⟨hne, hfg⟩ := HFG.out hgo
          have hne' : ((k : Int) + 1 == (lc : Int)) = false := by simpa using hne
          have hnn : ((nn : Int) != (nn : Int)) = false := by simp
          have hm4 : m < (lf : Int) := hm2
          refine (rgoes_any _ _).mono ?_
          rintro e w9 ⟨rfl, rfl⟩
          rw [hgo]
          clear hgo hne
          go_wp2_with fail
          refine (HF.out _ _ HI.out).mono ?_
          rintro e v8 ⟨rfl, hbv⟩
          have l1 : w.heap.size < v.heap.size := LT.out
          have l2 : wr.heap.size < v.heap.size := LT2.out
          replace c0 := cells_below hbv c0 l1
          replace c1 := cells_below hbv c1 l1
          replace c2 := cells_below hbv c2 l1
          replace c3 := cells_below hbv c3 l1
          replace c4 := cells_below hbv c4 l1
          replace c5 := cells_below hbv c5 l1
          replace y0 := cells_below hbv y0 l2
          replace y4 := cells_below hbv y4 l2
          replace HI := Lib.hid (HI.out.below hbv)
          replace HV := Lib.hid (HV.out.trans (hbv.mono (by omega)))
          replace LT := Lib.hid (Nat.lt_of_lt_of_le l1 hbv.size)
          replace LT2 := Lib.hid (Nat.lt_of_lt_of_le l2 hbv.size)
          clear hbv l1 l2
          rw [hfg]
          clear hfg
          go_wp2
          go_roundw
          case rel =>
            refine ⟨k + 1, by omega, by go_num, HV.out, fun j hj => ?_⟩
            rcases Nat.lt_succ_iff_lt_or_eq.1 hj with h | h
            · exact HA.out j h
            · rw [h]; exact HOKK.out
          case measure => simp [intOf]; omega
        · have hj1' : (op == 21) = false := by simpa using hj1
          have hj2' : (op == 22) = false := by simpa using hj2
          have hj3' : (op == 23) = false := by simpa using hj3
          refine (rgoes_any _ _).mono ?_
          rintro e w9 ⟨rfl, rfl⟩
          by_cases hgo : Cd.goes op = true
          · obtain ⟨hne, hfg⟩ := HFG.out hgo
            have hne' : ((k : Int) + 1 == (lc : Int)) = false := by simpa using hne
            have hnn : ((nn : Int) != (nn : Int)) = false := by simp
            rw [hgo]
            clear hgo hne
            go_wp2_with fail
            refine (HF.out _ _ HI.out).mono ?_
            rintro e v8 ⟨rfl, hbv⟩
            have l1 : w.heap.size < v.heap.size := LT.out
            have l2 : wr.heap.size < v.heap.size := LT2.out
            replace c0 := cells_below hbv c0 l1
            replace c1 := cells_below hbv c1 l1
            replace c2 := cells_below hbv c2 l1
            replace c3 := cells_below hbv c3 l1
            replace c4 := cells_below hbv c4 l1
            replace c5 := cells_below hbv c5 l1
            replace y0 := cells_below hbv y0 l2
            replace y4 := cells_below hbv y4 l2
            replace HI := Lib.hid (HI.out.below hbv)
            replace HV := Lib.hid (HV.out.trans (hbv.mono (by omega)))
            replace LT := Lib.hid (Nat.lt_of_lt_of_le l1 hbv.size)
            replace LT2 := Lib.hid (Nat.lt_of_lt_of_le l2 hbv.size)
            clear hbv l1 l2
            rw [hfg]
            clear hfg
            go_wp2
            go_roundw
            case rel =>
              refine ⟨k + 1, by omega, by go_num, HV.out, fun j hj => ?_⟩
              rcases Nat.lt_succ_iff_lt_or_eq.1 hj with h | h
              · exact HA.out j h
              · rw [h]; exact HOKK.out
            case measure => simp [intOf]; omega
          · have hgo' : Cd.goes op = false := by simpa using hgo
            rw [hgo']
            clear hgo hgo'
            go_wp2
            go_roundw
            case rel =>
              refine ⟨k + 1, by omega, by go_num, HV.out, fun j hj => ?_⟩
              rcases Nat.lt_succ_iff_lt_or_eq.1 hj with h | h
              · exact HA.out j h
              · rw [h]; exact HOKK.out
            case measure => simp [intOf]; omega
      | false =>
        have HOKK := Lib.hid hob
        rw [hob] at hokk
        replace hokk := hokk.symm
        have hbd : (Cd.goes op = true ∧ (k : Int) + 1 = z1) ∨ (¬ (Cd.goes op = true ∧ (k : Int) + 1 = z1) ∧ Im.leads ⟨op, a, b, c, m⟩ z z1 lf = false) := by
          by_cases h : Cd.goes op = true ∧ (k : Int) + 1 = z1
          · exact .inl h
          · refine .inr ⟨h, ?_⟩
            rw [Bool.and_eq_false_iff] at hokk
            rcases hokk with h1 | h1
            · exact h1
            · simp at h1
              exact absurd h1 h
        clear hokk hob hopk
        rcases hbd with ⟨hgo, hti⟩ | ⟨hng, hld⟩
        · have HTI := Lib.hid hti
          clear hti
          refine (rgoes_any _ _).mono ?_
          rintro e w9 ⟨rfl, rfl⟩
          rw [hgo]
          clear hgo
          by_cases hl : (k : Int) + 1 = lc
          · have hl' : ((k : Int) + 1 == (lc : Int)) = true := by simpa using hl
            clear hl
            go_wp2
            go_ret
            exact ⟨cret_int (Im.st_at (by have := HCL.out; omega) HOKK.out HA.out).symm, H0.out.trans (HV.out.mono (by omega))⟩
          · have hl' : ((k : Int) + 1 == (lc : Int)) = false := by simpa using hl
            have hfg : Im.fn p.fs lc ((k : Int) + 1) = ((nn + 1 : Nat) : Int) := HNX.out HTI.out hl
            clear hl
            go_wp2_with fail
            refine (HF.out _ _ HI.out).mono ?_
            rintro e v8 ⟨rfl, hbv⟩
            have l1 : w.heap.size < v.heap.size := LT.out
            have l2 : wr.heap.size < v.heap.size := LT2.out
            replace c0 := cells_below hbv c0 l1
            replace c1 := cells_below hbv c1 l1
            replace c2 := cells_below hbv c2 l1
            replace c3 := cells_below hbv c3 l1
            replace c4 := cells_below hbv c4 l1
            replace c5 := cells_below hbv c5 l1
            replace y0 := cells_below hbv y0 l2
            replace y4 := cells_below hbv y4 l2
            replace HI := Lib.hid (HI.out.below hbv)
            replace HV := Lib.hid (HV.out.trans (hbv.mono (by omega)))
            replace LT := Lib.hid (Nat.lt_of_lt_of_le l1 hbv.size)
            replace LT2 := Lib.hid (Nat.lt_of_lt_of_le l2 hbv.size)
            clear hbv l1 l2
            rw [hfg]
            clear hfg
            have hnn : (((nn + 1 : Nat) : Int) != (nn : Int)) = true := by
              have : ¬ ((nn + 1 : Nat) : Int) = (nn : Int) := by omega
              simpa using this
            go_wp2
            go_ret
            exact ⟨cret_int (Im.st_at (by have := HCL.out; omega) HOKK.out HA.out).symm, H0.out.trans (HV.out.mono (by omega))⟩
        · have hkind : (op = 21 ∨ op = 22) ∨ op = 23 := by
            unfold Im.leads at hld
            simp only at hld
            by_cases h1 : op = 21 ∨ op = 22
            · exact .inl h1
            · rw [if_neg h1] at hld
              by_cases h2 : op = 23
              · exact .inr h2
              · rw [if_neg h2] at hld; cases hld
          rcases hkind with h12 | h23
          · have hlm : ¬ (z ≤ m ∧ m < z1) := by
              unfold Im.leads at hld
              simp only at hld
              rw [if_pos h12] at hld
              intro h
              rw [decide_eq_true h.1, decide_eq_true h.2] at hld
              cases hld
            have hwu : IntKind.u64.wrap (lc : Int) = lc := by rw [IntKind.wrap_u64]; omega
            rcases h12 with hj | hj
            · subst hj
              have hgo : Cd.goes 21 = false := by decide +kernel
              refine (rgoes_any _ _).mono ?_
              rintro e w9 ⟨rfl, rfl⟩
              rw [hgo]
              clear hgo hld
              by_cases hml : (lc : Int) ≤ m
              · go_wp2
                go_ret
                exact ⟨cret_int (Im.st_at (by have := HCL.out; omega) HOKK.out HA.out).symm, H0.out.trans (HV.out.mono (by omega))⟩
              · have hw : IntKind.i64.wrap m = m := by rw [IntKind.wrap_i64]; omega
                have hfm := HFM.out hlm
                have hml' : m < (lc : Int) := by omega
                go_wp2_with fail
                refine (HF.out _ _ HI.out).mono ?_
                rintro e v9 ⟨rfl, hbv⟩
                have l1 : w.heap.size < v.heap.size := LT.out
                have l2 : wr.heap.size < v.heap.size := LT2.out
                replace c0 := cells_below hbv c0 l1
                replace c1 := cells_below hbv c1 l1
                replace c2 := cells_below hbv c2 l1
                replace c3 := cells_below hbv c3 l1
                replace c4 := cells_below hbv c4 l1
                replace c5 := cells_below hbv c5 l1
                replace y0 := cells_below hbv y0 l2
                replace y4 := cells_below hbv y4 l2
                replace HI := Lib.hid (HI.out.below hbv)
                replace HV := Lib.hid (HV.out.trans (hbv.mono (by omega)))
                replace LT := Lib.hid (Nat.lt_of_lt_of_le l1 hbv.size)
                replace LT2 := Lib.hid (Nat.lt_of_lt_of_le l2 hbv.size)
                clear hbv l1 l2
                have hnn : (Im.fn p.fs lc m != (nn : Int)) = true := by simpa using hfm
                go_wp2
                go_ret
                exact ⟨cret_int (Im.st_at (by have := HCL.out; omega) HOKK.out HA.out).symm, H0.out.trans (HV.out.mono (by omega))⟩
            · subst hj
              have hgo : Cd.goes 22 = true := by decide +kernel
              obtain ⟨hne, hfg⟩ := HFG.out (fun h => hng ⟨hgo, h⟩) hgo
              have hne' : ((k : Int) + 1 == (lc : Int)) = false := by simpa using hne
              have hnn0 : ((nn : Int) != (nn : Int)) = false := by simp
              refine (rgoes_any _ _).mono ?_
              rintro e w9 ⟨rfl, rfl⟩
              rw [hgo]
              clear hgo hld hne
              go_wp2_with fail
              refine (HF.out _ _ HI.out).mono ?_
              rintro e v8 ⟨rfl, hbv⟩
              have l1 : w.heap.size < v.heap.size := LT.out
              have l2 : wr.heap.size < v.heap.size := LT2.out
              replace c0 := cells_below hbv c0 l1
              replace c1 := cells_below hbv c1 l1
              replace c2 := cells_below hbv c2 l1
              replace c3 := cells_below hbv c3 l1
              replace c4 := cells_below hbv c4 l1
              replace c5 := cells_below hbv c5 l1
              replace y0 := cells_below hbv y0 l2
              replace y4 := cells_below hbv y4 l2
              replace HI := Lib.hid (HI.out.below hbv)
              replace HV := Lib.hid (HV.out.trans (hbv.mono (by omega)))
              replace LT := Lib.hid (Nat.lt_of_lt_of_le l1 hbv.size)
              replace LT2 := Lib.hid (Nat.lt_of_lt_of_le l2 hbv.size)
              clear hbv l1 l2
              rw [hfg]
              clear hfg
              by_cases hml : (lc : Int) ≤ m
              · go_wp2
                go_ret
                exact ⟨cret_int (Im.st_at (by have := HCL.out; omega) HOKK.out HA.out).symm, H0.out.trans (HV.out.mono (by omega))⟩
              · have hw : IntKind.i64.wrap m = m := by rw [IntKind.wrap_i64]; omega
                have hfm := HFM.out hlm
                have hml' : m < (lc : Int) := by omega
                go_wp2_with fail
                refine (HF.out _ _ HI.out).mono ?_
                rintro e v9 ⟨rfl, hbv⟩
                have l1 : w.heap.size < v8.heap.size := LT.out
                have l2 : wr.heap.size < v8.heap.size := LT2.out
                replace c0 := cells_below hbv c0 l1
                replace c1 := cells_below hbv c1 l1
                replace c2 := cells_below hbv c2 l1
                replace c3 := cells_below hbv c3 l1
                replace c4 := cells_below hbv c4 l1
                replace c5 := cells_below hbv c5 l1
                replace y0 := cells_below hbv y0 l2
                replace y4 := cells_below hbv y4 l2
                replace HI := Lib.hid (HI.out.below hbv)
                replace HV := Lib.hid (HV.out.trans (hbv.mono (by omega)))
                replace LT := Lib.hid (Nat.lt_of_lt_of_le l1 hbv.size)
                replace LT2 := Lib.hid (Nat.lt_of_lt_of_le l2 hbv.size)
                clear hbv l1 l2
                have hnn : (Im.fn p.fs lc m != (nn : Int)) = true := by simpa using hfm
                go_wp2
                go_ret
                exact ⟨cret_int (Im.st_at (by have := HCL.out; omega) HOKK.out HA.out).symm, H0.out.trans (HV.out.mono (by omega))⟩
          · have hlm : ¬ m < lf := by
              unfold Im.leads at hld
              simp only at hld
              rw [if_neg (by omega), if_pos h23] at hld
              exact of_decide_eq_false hld
            subst h23
            have hgo : Cd.goes 23 = true := by decide +kernel
            obtain ⟨hne, hfg⟩ := HFG.out (fun h => hng ⟨hgo, h⟩) hgo
            have hne' : ((k : Int) + 1 == (lc : Int)) = false := by simpa using hne
            have hnn0 : ((nn : Int) != (nn : Int)) = false := by simp
            have hm4 : (lf : Int) ≤ m := by omega
            have hwu : IntKind.u64.wrap (lf : Int) = lf := by rw [IntKind.wrap_u64]; omega
            refine (rgoes_any _ _).mono ?_
            rintro e w9 ⟨rfl, rfl⟩
            rw [hgo]
            clear hgo hld hne
            go_wp2_with fail
            refine (HF.out _ _ HI.out).mono ?_
            rintro e v8 ⟨rfl, hbv⟩
            have l1 : w.heap.size < v.heap.size := LT.out
            have l2 : wr.heap.size < v.heap.size := LT2.out
            replace c0 := cells_below hbv c0 l1
            replace c1 := cells_below hbv c1 l1
            replace c2 := cells_below hbv c2 l1
            replace c3 := cells_below hbv c3 l1
            replace c4 := cells_below hbv c4 l1
            replace c5 := cells_below hbv c5 l1
            replace y0 := cells_below hbv y0 l2
            replace y4 := cells_below hbv y4 l2
            replace HI := Lib.hid (HI.out.below hbv)
            replace HV := Lib.hid (HV.out.trans (hbv.mono (by omega)))
            replace LT := Lib.hid (Nat.lt_of_lt_of_le l1 hbv.size)
            replace LT2 := Lib.hid (Nat.lt_of_lt_of_le l2 hbv.size)
            clear hbv l1 l2
            rw [hfg]
            clear hfg
            go_wp2
            go_ret
            exact ⟨cret_int (Im.st_at (by have := HCL.out; omega) HOKK.out HA.out).symm, H0.out.trans (HV.out.mono (by omega))⟩
    · have hkl : k = lc := by omega
      have hall : ∀ j, j < p.cs.length → Im.okB p.fs p.cs j = true := fun j hj => HA.out j (by have := HCL.out; omega)
      have HST := Lib.hid (Im.st_none hall)
      clear hkl hall
      go_wp2
      go_ret
      exact ⟨cret_int HST.out.symm, H0.out.trans (HR.out.mono (by omega))⟩
end Go.Proofs.YtfhnigfghfmolaaDoor
namespace Go.Proofs.YtfhnigfghfmolaaDoor
set_option maxRecDepth 100000
open Go.RowKit

set_option maxRecDepth 10000 in
set_option maxHeartbeats 8000000 in
theorem rcheck_any (mem stk inp : Int) (Ad : Option Addr) (ld cd : Nat) (Af : Option Addr) (lf cf : Nat) (Ac : Option Addr) (lc cc : Nat) (p : Im.Pic) (w : World) (hi : ImAt w Ad ld cd Af lf cf Ac lc cc p) (e0 : p.mem = mem) (e1 : p.stk = stk) (e2 : p.inp = inp) (hlc : lc ≤ 1000000) (hlf : lf ≤ 1000000) (hld : ld ≤ 1000000) :
    Calls Tryd.prog 31 #[.agg #[.int .i64 mem, .int .i64 stk, .int .i64 inp, .slice Ad ld cd, .slice Af lf cf, .slice Ac lc cc]] w fun e w' => e = .returned (.int .i64 (Im.chk p)) ∧ Below w.heap.size w w' := by
  have HDL := Lib.hid hi.d.hlen
  have HFL := Lib.hid hi.f.hlen
  have HCL := Lib.hid hi.c.hlen
  have hC1 : Im.Cnt p ↔ (((0 ≤ mem ∧ mem ≤ 64) ∧ (0 ≤ stk ∧ stk ≤ 16) ∧ (0 ≤ inp ∧ inp ≤ 16) ∧ (ld : Int) ≤ mem ∧ (1 ≤ (lf : Int) ∧ (lf : Int) ≤ 16)) ∧ ((1 ≤ lc ∧ lc ≤ 256) ∧ Im.Places p.fs lc)) := by
    unfold Im.Cnt
    rw [e0, e1, e2, HDL.out, HFL.out, HCL.out]
    constructor
    · rintro ⟨h1, h2, h3, h4, h5, h6, h7⟩
      exact ⟨⟨h1, h2, h3, h4, by omega⟩, h6, h7⟩
    · rintro ⟨⟨h1, h2, h3, h4, h5⟩, h6, h7⟩
      exact ⟨h1, h2, h3, h4, by omega, h6, h7⟩
  have HC1 := Lib.hid hC1
  have HIM := Lib.hid hi
  have H0 := Lib.hid (Below.box w (.cells #[.int .i64 mem, .int .i64 stk, .int .i64 inp, .slice Ad ld cd, .slice Af lf cf, .slice Ac lc cc] 26))
  clear hC1 hi e0 e1 e2
  by_cases hc1 : (0 ≤ mem ∧ mem ≤ 64) ∧ (0 ≤ stk ∧ stk ≤ 16) ∧ (0 ≤ inp ∧ inp ≤ 16) ∧ (ld : Int) ≤ mem ∧ (1 ≤ (lf : Int) ∧ (lf : Int) ≤ 16)
  · have HCC1 := Lib.hid hc1
    obtain ⟨⟨m1, m2⟩, ⟨m3, m4⟩, ⟨m5, m6⟩, m7, m8, m9⟩ := hc1
    have b0 : (w.alloc (.cells #[.int .i64 mem, .int .i64 stk, .int .i64 inp, .slice Ad ld cd, .slice Af lf cf, .slice Ac lc cc] 26)).cell? ⟨w.heap.size, 0, none⟩ = some (.int .i64 mem) := by simp
    have b1 : (w.alloc (.cells #[.int .i64 mem, .int .i64 stk, .int .i64 inp, .slice Ad ld cd, .slice Af lf cf, .slice Ac lc cc] 26)).cell? ⟨w.heap.size, 1, none⟩ = some (.int .i64 stk) := by simp
    have b2 : (w.alloc (.cells #[.int .i64 mem, .int .i64 stk, .int .i64 inp, .slice Ad ld cd, .slice Af lf cf, .slice Ac lc cc] 26)).cell? ⟨w.heap.size, 2, none⟩ = some (.int .i64 inp) := by simp
    have b3 : (w.alloc (.cells #[.int .i64 mem, .int .i64 stk, .int .i64 inp, .slice Ad ld cd, .slice Af lf cf, .slice Ac lc cc] 26)).cell? ⟨w.heap.size, 3, none⟩ = some (.slice Ad ld cd) := by simp
    have b4 : (w.alloc (.cells #[.int .i64 mem, .int .i64 stk, .int .i64 inp, .slice Ad ld cd, .slice Af lf cf, .slice Ac lc cc] 26)).cell? ⟨w.heap.size, 4, none⟩ = some (.slice Af lf cf) := by simp
    have b5 : (w.alloc (.cells #[.int .i64 mem, .int .i64 stk, .int .i64 inp, .slice Ad ld cd, .slice Af lf cf, .slice Ac lc cc] 26)).cell? ⟨w.heap.size, 5, none⟩ = some (.slice Ac lc cc) := by simp
    have G0 := Lib.hid b0
    have G1 := Lib.hid b1
    have G2 := Lib.hid b2
    have G3 := Lib.hid b3
    have G4 := Lib.hid b4
    have G5 := Lib.hid b5
    clear b0 b1 b2 b3 b4 b5
    obtain ⟨bf, of, hAf, hbf, hcf⟩ := HIM.out.f.mem (by omega)
    have HCF := Lib.hid hcf
    have HBF := Lib.hid hbf
    have HAF := Lib.hid hAf
    clear hcf hbf hAf
    go_enter Tryd.func31, Tryd.ntmps31
    go_wp2_with (go_at_call 47; refine (rin_any _ _ _ _).mono ?_; rintro e w' ⟨rfl, rfl⟩)
    go_loopw [3] (fun i wr => ∃ k : Nat, k ≤ lf ∧ i = .int .i64 k ∧ Below (w.heap.size + 1) (w.alloc (.cells #[.int .i64 mem, .int .i64 stk, .int .i64 inp, .slice Ad ld cd, .slice Af lf cf, .slice Ac lc cc] 26)) wr ∧ (0 < k → p.fs.getD 0 0 = 0) ∧ ∀ j, j + 1 < k → p.fs.getD j 0 < p.fs.getD (j + 1) 0) (fun i _ => lf - (intOf i).toNat)
    case atStart => exact ⟨0, by omega, rfl, Below.refl _ _, fun h => absurd h (by omega), fun j hj => absurd hj (by omega)⟩
    case round =>
      obtain ⟨k, hk, rfl, hbr, hz0, hall⟩ := hrel
      have c0 := cells_below hbr G0.out (by simp)
      have c1 := cells_below hbr G1.out (by simp)
      have c2 := cells_below hbr G2.out (by simp)
      have c3 := cells_below hbr G3.out (by simp)
      have c4 := cells_below hbr G4.out (by simp)
      have c5 := cells_below hbr G5.out (by simp)
      rw [HAF.out] at c4
      have HR := Lib.hid hbr
      have HA := Lib.hid hall
      have HZ0 := Lib.hid hz0
      clear hbr hall hz0
      have hcell : ∀ i, i < lf → wr.cell? ⟨bf, of + i, none⟩ = some (.int .i64 (p.fs.getD i 0)) := fun i hi => cells_below HR.out (cells_below H0.out (HCF.out i hi) HBF.out) (Nat.lt_succ_of_lt HBF.out)
      have HCELL := Lib.hid hcell
      clear hcell
      by_cases hlt : k < lf
      · have hki : (k : Int) < lf := by omega
        match k, hk, hlt, hki, HA, HZ0 with
        | 0, hk, hlt, hki, HA, HZ0 =>
          have d0 : wr.cell? ⟨bf, of, none⟩ = some (.int .i64 (p.fs.getD 0 0)) := HCELL.out 0 hlt
          have hz : ∃ z, p.fs.getD 0 0 = z := ⟨_, rfl⟩
          obtain ⟨z, hz⟩ := hz
          rw [hz] at d0
          have HZ := Lib.hid hz
          clear hz
          by_cases hz : z = 0
          · have hz' : (z != 0) = false := by simpa using hz
            go_wp2_with fail
            go_quiet (fail)
            go_wp2
            go_roundw
            case rel => exact ⟨1, by omega, by go_num, below_drewN HR.out nq, fun _ => by rw [HZ.out]; exact hz, fun j hj => absurd hj (by omega)⟩
            case measure => simp [intOf]; omega
          · have hz' : (z != 0) = true := by simpa using hz
            have hck : Im.chk p = 3 := Im.chk_cnt fun h => hz (by rw [← HZ.out]; exact (HC1.out.1 h).2.2.1)
            have HCK := Lib.hid hck
            clear hck
            go_wp2_with fail
            go_quiet (fail)
            go_wp2
            go_ret
            exact ⟨cret_int HCK.out.symm, H0.out.trans (below_drewN (HR.out.mono (by omega)) nq)⟩
        | j + 1, hk, hlt, hki, HA, HZ0 =>
          have d0 := HCELL.out j (by omega)
          have d1 := HCELL.out (j + 1) hlt
          have hz : ∃ z0 z1, p.fs.getD j 0 = z0 ∧ p.fs.getD (j + 1) 0 = z1 := ⟨_, _, rfl, rfl⟩
          obtain ⟨z0, z1, e0, e1⟩ := hz
          rw [e0] at d0
          rw [e1] at d1
          have E0 := Lib.hid e0
          have E1 := Lib.hid e1
          have hj1 : (j : Int) + 1 < lf := by omega
          have hj0 : ((j : Int) + 1 == 0) = false := by
            have : ¬ (j : Int) + 1 = 0 := by omega
            simpa using this
          have hjp : (0 : Int) < (j : Int) + 1 := by omega
          clear e0 e1
          by_cases hz : z1 ≤ z0
          · have hck : Im.chk p = 3 := Im.chk_cnt fun h => by
              have := (HC1.out.1 h).2.2.2.1 j (by have := HFL.out; omega)
              rw [E0.out, E1.out] at this
              omega
            have HCK := Lib.hid hck
            clear hck
            go_wp2_with fail
            go_quiet (fail)
            go_wp2
            go_ret
            exact ⟨cret_int HCK.out.symm, H0.out.trans (below_drewN (HR.out.mono (by omega)) nq)⟩
          · go_wp2_with fail
            go_quiet (fail)
            go_wp2
            go_roundw
            case rel =>
              refine ⟨j + 1 + 1, by omega, by go_num, below_drewN HR.out nq, fun _ => HZ0.out (by omega), fun i hi => ?_⟩
              rcases Nat.lt_succ_iff_lt_or_eq.1 hi with h | h
              · exact HA.out i h
              · obtain rfl : i = j := by omega
                rw [E0.out, E1.out]; omega
            case measure => simp [intOf]; omega
      · have hkl : lf = k := by omega
        subst hkl
        obtain ⟨kf, hkf⟩ : ∃ kf, lf = kf + 1 := ⟨lf - 1, by omega⟩
        have d1 := HCELL.out kf (by omega)
        have hz : ∃ z, p.fs.getD kf 0 = z := ⟨_, rfl⟩
        obtain ⟨z, hz⟩ := hz
        rw [hz] at d1
        have HZ := Lib.hid hz
        have hPl : Im.Places p.fs lc ↔ z < lc := by
          have hl : p.fs.length - 1 = kf := by have := HFL.out; omega
          unfold Im.Places
          rw [hl, hz]
          exact ⟨fun h => h.2.2, fun h => ⟨HZ0.out (by omega), fun j hj => HA.out j (by omega), h⟩⟩
        have HPL := Lib.hid hPl
        have hlf' : (lf : Int) - 1 = kf := by omega
        have hkf1 : (kf : Int) < lf := by omega
        have hkf2 : kf < lf := by omega
        have HKF := Lib.hid hkf
        clear hz hPl hkf
        by_cases h256 : (256 : Int) < lc
        · have hd256 : decide ((256 : Int) < (lc : Int)) = true := decide_eq_true h256
          have hck : Im.chk p = 3 := Im.chk_cnt fun h => by have := (HC1.out.1 h).2.1.2; omega
          have HCK := Lib.hid hck
          clear hck
          go_wp2_with fail
          go_quiet (fail)
          go_wp2
          go_ret
          exact ⟨cret_int HCK.out.symm, H0.out.trans (below_drewN (HR.out.mono (by omega)) nq)⟩
        · have hd256 : decide ((256 : Int) < (lc : Int)) = false := decide_eq_false h256
          by_cases hzl : (lc : Int) ≤ z
          · have hck : Im.chk p = 3 := Im.chk_cnt fun h => by have := HPL.out.1 (HC1.out.1 h).2.2; omega
            have HCK := Lib.hid hck
            clear hck
            go_wp2_with fail
            go_quiet (fail)
            go_wp2
            go_ret
            exact ⟨cret_int HCK.out.symm, H0.out.trans (below_drewN (HR.out.mono (by omega)) nq)⟩
          · have hP : Im.Places p.fs lc := HPL.out.2 (by omega)
            have hnn := hP.nonneg (k := kf) (by have := HFL.out; omega)
            rw [HZ.out] at hnn
            have hlc1 : 1 ≤ lc := by omega
            have hCn : Im.Cnt p := HC1.out.2 ⟨HCC1.out, ⟨hlc1, by omega⟩, hP⟩
            have HCN := Lib.hid hCn
            have HPP := Lib.hid hP
            have HRG := Lib.hid HIM.out.c.rng
            obtain ⟨bc, oc, hAc, hbc, hcc⟩ := HIM.out.c.mem (by omega)
            have HCC := Lib.hid hcc
            have HBC := Lib.hid hbc
            have HAC := Lib.hid hAc
            clear hcc hbc hAc hCn hP
            go_wp2_with fail
            go_quiet (fail)
            go_wp2
            go_loopw [4] (fun i wx => ∃ q : Nat, q ≤ lc ∧ i = .int .i64 q ∧ Below (w.heap.size + 1) (w.alloc (.cells #[.int .i64 mem, .int .i64 stk, .int .i64 inp, .slice Ad ld cd, .slice Af lf cf, .slice Ac lc cc] 26)) wx ∧ ∀ j, j < q → Im.bad5 (p.cs.getD j Im.z5) = -1) (fun i _ => lc - (intOf i).toNat)
            case atStart => exact ⟨0, by omega, rfl, below_drewN HR.out nq, fun j hj => absurd hj (by omega)⟩
            case round =>
              obtain ⟨q, hq, rfl, hbx, hall⟩ := hrel
              have x0 := cells_below hbx G0.out (by simp)
              have x1 := cells_below hbx G1.out (by simp)
              have x2 := cells_below hbx G2.out (by simp)
              have x3 := cells_below hbx G3.out (by simp)
              have x4 := cells_below hbx G4.out (by simp)
              have x5 := cells_below hbx G5.out (by simp)
              have HX := Lib.hid hbx
              have HL := Lib.hid hall
              clear hbx hall c0 c1 c2 c3 c4 c5 d1
              by_cases hqt : q < lc
              · have hqi : (q : Int) < lc := by omega
                rw [HAC.out] at x5
                have hins := ((HCC.out q hqt).keep (fun o => H0.out.cell (p := ⟨bc, o, none⟩) HBC.out)).keep (fun o => HX.out.cell (p := ⟨bc, o, none⟩) (Nat.lt_succ_of_lt HBC.out))
                have hm := HRG.out q
                have hI5 : ∃ i, p.cs.getD q Im.z5 = i := ⟨_, rfl⟩
                obtain ⟨⟨op, a, b, c', m⟩, hei⟩ := hI5
                rw [hei] at hins hm
                obtain ⟨y0, y1, y2, y3, y4⟩ := hins
                simp only at y0 y1 y2 y3 y4 hm
                have HEI := Lib.hid hei
                clear hei
                by_cases hbad : Cd.bad op a b c' m = -1
                · have HBD := Lib.hid hbad
                  clear hbad
                  go_wp2_with fail
                  refine (rput_ok op a b c' m _ HBD.out hm.1 hm.2).mono ?_
                  rintro e v2 ⟨g, cap, rfl, _, hb2⟩
                  have HB2 := Lib.hid (HX.out.trans (hb2.mono (by have := HX.out.size; simp at this; omega)))
                  clear hb2
                  go_wp2
                  go_roundw
                  case rel =>
                    refine ⟨q + 1, by omega, by go_num, HB2.out, fun j hj => ?_⟩
                    rcases Nat.lt_succ_iff_lt_or_eq.1 hj with h | h
                    · exact HL.out j h
                    · rw [h, HEI.out]; exact HBD.out
                  case measure => simp [intOf]; omega
                · have hck : Im.chk p = Cd.er (Cd.bad op a b c' m) := by
                    have h1 := Im.firstE_at p.cs q (by have := HCL.out; omega) HL.out (by rw [HEI.out]; exact hbad)
                    rw [HEI.out] at h1
                    exact Im.chk_bad HCN.out h1 (Im.er_ne hbad)
                  have hne : (Cd.er (Cd.bad op a b c' m) != 0) = true := by simpa using Im.er_ne hbad
                  have HBD := Lib.hid hbad
                  have HCK := Lib.hid hck
                  clear hck hbad
                  go_wp2_with fail
                  refine (rput_bad op a b c' m _ HBD.out).mono ?_
                  rintro e v2 ⟨rfl, hb2⟩
                  have HB2 := Lib.hid (HX.out.trans (hb2.mono (by have := HX.out.size; simp at this; omega)))
                  clear hb2
                  go_wp2
                  go_ret
                  exact ⟨cret_int HCK.out.symm, H0.out.trans (HB2.out.mono (by omega))⟩
              · have hall : ∀ j, j < p.cs.length → Im.bad5 (p.cs.getD j Im.z5) = -1 := fun j hj => HL.out j (by have := HCL.out; omega)
                have hck := Im.chk_fl HCN.out (Im.firstE_none _ hall)
                have HCK := Lib.hid hck
                have hIx := (HIM.out.below H0.out).below (HX.out.mono (by simp))
                have HST := Lib.hid (rstray_any mem stk inp Ad ld cd Af lf cf Ac lc cc p wr hIx HPP.out (by omega) hlc1 hlc hlf)
                have hst : (Im.flB p.fs p.cs = true ∧ 0 ≤ Im.st p.fs p.cs) ∨ (Im.flB p.fs p.cs = false ∧ Im.st p.fs p.cs = -1) := by
                  unfold Im.flB Im.st
                  by_cases h : Im.stray p.fs p.cs < p.cs.length
                  · rw [decide_eq_true h, if_pos h]
                    exact .inl ⟨rfl, by omega⟩
                  · rw [decide_eq_false h, if_neg h]
                    exact .inr ⟨rfl, rfl⟩
                have hs : ∃ s, Im.st p.fs p.cs = s := ⟨_, rfl⟩
                obtain ⟨s, hs⟩ := hs
                rw [hs] at hst HST
                clear hck hall hs hIx
                go_wp2_with fail
                refine HST.out.mono ?_
                rintro e v2 ⟨rfl, hb2⟩
                have HB2 := Lib.hid (HX.out.trans (hb2.mono (by have := HX.out.size; simp at this; omega)))
                clear hb2 x0 x1 x2 x3 x4 x5
                rcases hst with ⟨h1, h2⟩ | ⟨h1, h2⟩
                · have hcc := HCK.out
                  rw [h1, if_pos rfl] at hcc
                  have HCC7 := Lib.hid hcc
                  clear hcc h1
                  go_wp2
                  go_ret
                  exact ⟨cret_int HCC7.out.symm, H0.out.trans (HB2.out.mono (by omega))⟩
                · have hcc := HCK.out
                  rw [h1] at hcc
                  have HCC7 := Lib.hid (show Im.chk p = 0 from hcc)
                  subst h2
                  clear hcc h1
                  go_wp2
                  go_ret
                  exact ⟨cret_int HCC7.out.symm, H0.out.trans (HB2.out.mono (by omega))⟩
  · have hck : Im.chk p = 3 := Im.chk_cnt fun h => hc1 (HC1.out.1 h).1
    rw [hck]
    have HNC := Lib.hid hc1
    clear hck hc1
    go_enter Tryd.func31, Tryd.ntmps31
    go_wp2_with (go_at_call 47; refine (rin_any _ _ _ _).mono ?_; rintro e w' ⟨rfl, rfl⟩)
    all_goals first
      | (go_ret
         exact ⟨rfl, H0.out⟩)
      | (exfalso
         apply HNC.out
         clear HNC HC1 HIM H0
         simp_all
         try omega)

theorem rright_any (H : Hd) (w : World) (HA : HdAt w H) (hlc : H.lc ≤ 1000000) (hlf : H.lf ≤ 1000000) (hld : H.ld ≤ 1000000) :
    Calls Tryd.prog 17 #[.agg #[.int .i64 H.mem, .int .i64 H.stk, .int .i64 H.inp, .slice H.Ad H.ld H.cd, .slice H.Af H.lf H.cf, .slice H.Ac H.lc H.cc]] w fun e w' => e = .returned (.bool (decide (Im.chk H.p = 0))) ∧ Below w.heap.size w w' := by
  have hrc : ∀ W, Below w.heap.size w W → Calls Tryd.prog 31 #[.agg #[.int .i64 H.mem, .int .i64 H.stk, .int .i64 H.inp, .slice H.Ad H.ld H.cd, .slice H.Af H.lf H.cf, .slice H.Ac H.lc H.cc]] W fun e w' => e = .returned (.int .i64 (Im.chk H.p)) ∧ Below W.heap.size W w' := fun W hW => rcheck_any _ _ _ _ _ _ _ _ _ _ _ _ H.p W (HA.img.below hW) HA.e0 HA.e1 HA.e2 hlc hlf hld
  generalize Im.chk H.p = c at *
  have HRC := Lib.hid hrc
  clear hrc HA
  go_enter Tryd.func17, Tryd.ntmps17
  go_wp2_with fail
  have hB := Below.box w (.cells #[.int .i64 H.mem, .int .i64 H.stk, .int .i64 H.inp, .slice H.Ad H.ld H.cd, .slice H.Af H.lf H.cf, .slice H.Ac H.lc H.cc] 26)
  refine (HRC.out _ hB).mono ?_
  rintro e v ⟨rfl, hb⟩
  have HB := Lib.hid (hB.trans (hb.mono hB.size))
  clear hB hb
  go_wp2
  go_ret
  exact ⟨by first | rfl | simp, HB.out⟩
end Go.Proofs.YtfhnigfghfmolaaDoor
