/-
  The reference's in, Fun and Stray.
-/
import Derived.Test.YtjadiijjahjjoaaDoorImL3
namespace Go.Proofs.YtjadiijjahjjoaaDoor
open Go.RowKit

set_option maxHeartbeats 400000 in
theorem rin_any (x lo hi : Int) (w : World) :
    Calls Tryd.prog 42 #[.int .i64 x, .int .i64 lo, .int .i64 hi] w fun e w' => e = .returned (.bool (decide (lo ≤ x) && decide (x ≤ hi))) ∧ w = w' := by
  go_enter Tryd.func42, Tryd.ntmps42
  go_wp2
  all_goals
    go_ret
    refine ⟨ret_bool ?_, rfl⟩
    simp_all
    try (intro h; omega)

set_option maxHeartbeats 800000 in
theorem rfun_any (mem stk inp : Int) (Ad : Option Addr) (ld cd : Nat) (Af : Option Addr) (lf cf : Nat) (Ac : Option Addr) (lc cc : Nat) (fs : List Int) (pl : Int) (w : World) (hf : InSl w Af lf cf fs) (hP : Im.Places fs lc) (hn : 1 ≤ lf) (hc2 : lc ≤ maxLen) :
    Calls Tryd.prog 53 #[.agg #[.int .i64 mem, .int .i64 stk, .int .i64 inp, .slice Ad ld cd, .slice Af lf cf, .slice Ac lc cc], .int .i64 pl] w fun e w' => e = .returned (.int .i64 (Im.fn fs lc pl)) ∧ Below w.heap.size w w' := by
  have hfl := Lib.hid hf.hlen
  have hf2 := Nat.le_trans hf.hle hf.hcap
  have HPP := Lib.hid hP
  unfold maxLen at hf2 hc2
  obtain ⟨b, o, rfl, hbf, hcf⟩ := hf.mem (by omega)
  have hne : b ≠ w.heap.size := by omega
  have HCF := Lib.hid hcf
  have H0 := Lib.hid (Below.box w (.cells #[.int .i64 mem, .int .i64 stk, .int .i64 inp, .slice Ad ld cd, .slice (some ⟨b, o, none⟩) lf cf, .slice Ac lc cc] 26))
  clear hf hP hcf
  by_cases hin : 0 ≤ pl ∧ pl < lc
  · obtain ⟨p0, p1⟩ := hin
    go_enter Tryd.func53, Tryd.ntmps53
    go_wp2
    go_loop [5, 6] (fun f i => ∃ k : Nat, k ≤ lf ∧ i = .int .i64 k ∧ ∃ fv : Int, f = .int .i64 fv ∧ ((fv = -1 ∧ k = 0) ∨ ∃ n : Nat, n < k ∧ fv = n ∧ fs.getD n 0 ≤ pl ∧ ∀ j, n < j → j < k → pl < fs.getD j 0)) (fun _ i => lf - (intOf i).toNat)
    case atStart => exact ⟨0, by omega, rfl, -1, rfl, .inl ⟨rfl, rfl⟩⟩
    case round =>
      obtain ⟨k, hk, rfl, fv, rfl, hfv⟩ := hrel
      have HFV := Lib.hid hfv
      clear hfv
      by_cases hlt : k < lf
      · have d0 := HCF.out k hlt
        have hki : (k : Int) < lf := by omega
        have hz : ∃ z, fs.getD k 0 = z := ⟨_, rfl⟩
        obtain ⟨z, hz⟩ := hz
        rw [hz] at d0
        have HZ := Lib.hid hz
        clear hz
        by_cases hzp : z ≤ pl
        · go_wp2
          go_round
          case rel => exact ⟨k + 1, by omega, by go_num, k, rfl, .inr ⟨k, by omega, rfl, by rw [HZ.out]; exact hzp, fun j h1 h2 => absurd h2 (by omega)⟩⟩
          case measure => simp [intOf]; omega
        · go_wp2
          go_round
          case rel =>
            refine ⟨k + 1, by omega, by go_num, fv, rfl, ?_⟩
            rcases HFV.out with ⟨_, h0⟩ | ⟨n, h1, h2, h3, h4⟩
            · exfalso
              subst h0
              have := HPP.out.1
              rw [HZ.out] at this
              omega
            · refine .inr ⟨n, by omega, h2, h3, fun j g1 g2 => ?_⟩
              rcases Nat.lt_succ_iff_lt_or_eq.1 g2 with h | h
              · exact h4 j g1 h
              · rw [h, HZ.out]; omega
          case measure => simp [intOf]; omega
      · have hkl : k = lf := by omega
        have HK := Lib.hid hkl
        clear hkl
        go_wp2
        go_ret
        refine ⟨cret_int ?_, H0.out⟩
        rcases HFV.out with ⟨_, h0⟩ | ⟨n, h1, h2, h3, h4⟩
        · have := HK.out
          omega
        · have hkk := HK.out
          have hll := hfl.out
          rw [h2, Im.fn_in HPP.out (n := n) (by omega) h3 ?_]
          rcases Nat.lt_or_ge (n + 1) fs.length with g | g
          · rw [Im.till_in g]
            exact h4 (n + 1) (by omega) (by omega)
          · rw [Im.till_last g]
            exact p1
  · have hfn : Im.fn fs lc pl = -1 := by unfold Im.fn; rw [if_neg hin]
    rw [hfn]
    clear hfn
    by_cases p0 : pl < 0
    · go_enter Tryd.func53, Tryd.ntmps53
      go_wp2
      go_ret
      exact ⟨rfl, H0.out⟩
    · have p1 : (lc : Int) ≤ pl := by omega
      clear hin
      go_enter Tryd.func53, Tryd.ntmps53
      go_wp2
      go_ret
      exact ⟨rfl, H0.out⟩

namespace Im
/-- The first instruction by which it doesn't flow; -1: none. -/
def st (fs : List Int) (cs : List I5) : Int := if stray fs cs < cs.length then stray fs cs else -1
theorem st_at {fs : List Int} {cs : List I5} {k : Nat} (hk : k < cs.length) (h : okB fs cs k = false) (hn : ∀ j, j < k → okB fs cs j = true) : st fs cs = k := by
  unfold st
  rw [stray_at hk h hn, if_pos hk]
theorem st_none {fs : List Int} {cs : List I5} (hn : ∀ j, j < cs.length → okB fs cs j = true) : st fs cs = -1 := by
  unfold st
  rw [stray_none hn, if_neg (Nat.lt_irrefl _)]
end Im

set_option maxRecDepth 10000 in
set_option maxHeartbeats 8000000 in
theorem rstray_any (mem stk inp : Int) (Ad : Option Addr) (ld cd : Nat) (Af : Option Addr) (lf cf : Nat) (Ac : Option Addr) (lc cc : Nat) (p : Im.Pic) (w : World) (hi : ImAt w Ad ld cd Af lf cf Ac lc cc p) (hP : Im.Places p.fs lc) (hlf1 : 1 ≤ lf) (hlc1 : 1 ≤ lc) (hlc2 : lc ≤ 1000000) (hlf2 : lf ≤ 1000000) :
    Calls Tryd.prog 34 #[.agg #[.int .i64 mem, .int .i64 stk, .int .i64 inp, .slice Ad ld cd, .slice Af lf cf, .slice Ac lc cc]] w fun e w' => e = .returned (.int .i64 (Im.st p.fs p.cs)) ∧ Below w.heap.size w w' := by
  have HFUN : ∀ (pl : Int) (W : World), InSl W Af lf cf p.fs → Calls Tryd.prog 53 #[.agg #[.int .i64 mem, .int .i64 stk, .int .i64 inp, .slice Ad ld cd, .slice Af lf cf, .slice Ac lc cc], .int .i64 pl] W fun e w' => e = .returned (.int .i64 (Im.fn p.fs lc pl)) ∧ Below W.heap.size W w' := fun pl W h => rfun_any mem stk inp Ad ld cd Af lf cf Ac lc cc p.fs pl W h hP hlf1 (by unfold maxLen; omega)
  have HF := Lib.hid HFUN
  have HPP := Lib.hid hP
  have HFL := Lib.hid hi.f.hlen
  have HCL := Lib.hid hi.c.hlen
  have HIM := Lib.hid hi
  obtain ⟨bc, oc, rfl, hbc, hcc⟩ := hi.c.mem (by omega)
  have HCC := Lib.hid hcc
  have HBC := Lib.hid hbc
  have H0 := Lib.hid (Below.box w (.cells #[.int .i64 mem, .int .i64 stk, .int .i64 inp, .slice Ad ld cd, .slice Af lf cf, .slice (some ⟨bc, oc, none⟩) lc cc] 26))
  have b0 : (w.alloc (.cells #[.int .i64 mem, .int .i64 stk, .int .i64 inp, .slice Ad ld cd, .slice Af lf cf, .slice (some ⟨bc, oc, none⟩) lc cc] 26)).cell? ⟨w.heap.size, 0, none⟩ = some (.int .i64 mem) := by simp
  have b1 : (w.alloc (.cells #[.int .i64 mem, .int .i64 stk, .int .i64 inp, .slice Ad ld cd, .slice Af lf cf, .slice (some ⟨bc, oc, none⟩) lc cc] 26)).cell? ⟨w.heap.size, 1, none⟩ = some (.int .i64 stk) := by simp
  have b2 : (w.alloc (.cells #[.int .i64 mem, .int .i64 stk, .int .i64 inp, .slice Ad ld cd, .slice Af lf cf, .slice (some ⟨bc, oc, none⟩) lc cc] 26)).cell? ⟨w.heap.size, 2, none⟩ = some (.int .i64 inp) := by simp
  have b3 : (w.alloc (.cells #[.int .i64 mem, .int .i64 stk, .int .i64 inp, .slice Ad ld cd, .slice Af lf cf, .slice (some ⟨bc, oc, none⟩) lc cc] 26)).cell? ⟨w.heap.size, 3, none⟩ = some (.slice Ad ld cd) := by simp
  have b4 : (w.alloc (.cells #[.int .i64 mem, .int .i64 stk, .int .i64 inp, .slice Ad ld cd, .slice Af lf cf, .slice (some ⟨bc, oc, none⟩) lc cc] 26)).cell? ⟨w.heap.size, 4, none⟩ = some (.slice Af lf cf) := by simp
  have b5 : (w.alloc (.cells #[.int .i64 mem, .int .i64 stk, .int .i64 inp, .slice Ad ld cd, .slice Af lf cf, .slice (some ⟨bc, oc, none⟩) lc cc] 26)).cell? ⟨w.heap.size, 5, none⟩ = some (.slice (some ⟨bc, oc, none⟩) lc cc) := by simp
  have G0 := Lib.hid b0
  have G1 := Lib.hid b1
  have G2 := Lib.hid b2
  have G3 := Lib.hid b3
  have G4 := Lib.hid b4
  have G5 := Lib.hid b5
  clear b0 b1 b2 b3 b4 b5 hcc hbc HFUN hP hi
  go_enter Tryd.func34, Tryd.ntmps34
  go_wp2
  go_loopw [3] (fun i wr => ∃ k : Nat, k ≤ lc ∧ i = .int .i64 k ∧ Below (w.heap.size + 1) (w.alloc (.cells #[.int .i64 mem, .int .i64 stk, .int .i64 inp, .slice Ad ld cd, .slice Af lf cf, .slice (some ⟨bc, oc, none⟩) lc cc] 26)) wr ∧ ∀ j, j < k → Im.okB p.fs p.cs j = true) (fun i _ => lc - (intOf i).toNat)
  case atStart => exact ⟨0, by omega, rfl, Below.refl _ _, fun j hj => absurd hj (by omega)⟩
  case round =>
    obtain ⟨k, hk, rfl, hbr, hall⟩ := hrel
    have c0 := cells_below hbr G0.out (by simp)
    have c1 := cells_below hbr G1.out (by simp)
    have c2 := cells_below hbr G2.out (by simp)
    have c3 := cells_below hbr G3.out (by simp)
    have c4 := cells_below hbr G4.out (by simp)
    have c5 := cells_below hbr G5.out (by simp)
    have hszw : w.heap.size < wr.heap.size := by have := hbr.size; simp at this; omega
    have HR := Lib.hid hbr
    have HA := Lib.hid hall
    clear hbr hall
    by_cases hlt : k < lc
    · have hki : (k : Int) < lc := by omega
      have hins : InsAt wr bc (oc + k * 5) (p.cs.getD k Im.z5) := ((HCC.out k hlt).keep fun o => H0.out.cell (p := ⟨bc, o, none⟩) HBC.out).keep fun o => HR.out.cell (p := ⟨bc, o, none⟩) (Nat.lt_succ_of_lt HBC.out)
      have hrng := HIM.out.c.rng k
      have hbcn : bc ≠ wr.heap.size := by have h1 := HBC.out; omega
      have hI5 : ∃ i, p.cs.getD k Im.z5 = i := ⟨_, rfl⟩
      obtain ⟨⟨op, a, b, c, m⟩, hei⟩ := hI5
      rw [hei] at hins hrng
      obtain ⟨x0, x1, x2, x3, x4⟩ := hins
      simp only at x0 x1 x2 x3 x4 hrng
      obtain ⟨hr0, hr1⟩ := hrng
      obtain ⟨nn, hn0, hn1, hn2⟩ := Im.own_ex HPP.out (by have := HFL.out; omega) (p := (k : Int)) (by omega) hki
      have hfk : Im.fn p.fs lc k = nn := Im.fn_in HPP.out hn0 hn1 hn2
      have hokk := Im.okB_eq (fs := p.fs) (cs := p.cs) (by rw [HCL.out]; exact HPP.out) hn0 hn1 (by rw [HCL.out]; exact hn2) hei
      rw [HCL.out, HFL.out] at hokk
      have htl := HPP.out.till_le hn0
      have hfn0 := HPP.out.nonneg hn0
      have hfg : ¬ (k : Int) + 1 = Im.till p.fs lc nn → Cd.goes op = true → ¬ (k : Int) + 1 = lc ∧ Im.fn p.fs lc ((k : Int) + 1) = nn := fun h2 _ => ⟨by omega, Im.fn_in HPP.out hn0 (by omega) (by omega)⟩
      have hnx : (k : Int) + 1 = Im.till p.fs lc nn → ¬ (k : Int) + 1 = lc → Im.fn p.fs lc ((k : Int) + 1) = ((nn + 1 : Nat) : Int) := fun h1 h2 => by
        have h3 : nn + 1 < p.fs.length := by
          rcases Nat.lt_or_ge (nn + 1) p.fs.length with g | g
          · exact g
          · rw [Im.till_last g] at h1
            exact absurd h1 h2
        rw [Im.till_in h3] at h1
        refine Im.fn_in HPP.out h3 (by omega) ?_
        have := HPP.out.lt_till h3
        omega
      have hfm : ¬ (p.fs.getD nn 0 ≤ m ∧ m < Im.till p.fs lc nn) → ¬ Im.fn p.fs lc m = nn := fun h1 h2 => by
        unfold Im.fn at h2
        split at h2
        · rename_i h3
          obtain ⟨g1, g2, g3⟩ := Im.own_spec HPP.out (by have := HFL.out; omega) h3.1 h3.2
          have : Im.own p.fs lc m = nn := by omega
          rw [this] at g2 g3
          exact h1 ⟨g2, g3⟩
        · omega
      have hzz : ∃ z z1, p.fs.getD nn 0 = z ∧ Im.till p.fs lc nn = z1 := ⟨_, _, rfl, rfl⟩
      obtain ⟨z, z1, hz, hz1⟩ := hzz
      rw [hz] at hn1 hokk hfn0 hfm
      rw [hz1] at hn2 hokk htl hfg hnx hfm
      have hopk : Im.leads ⟨op, a, b, c, m⟩ z z1 lf = true → (((op = 21 ∨ op = 22) ∧ 0 ≤ m ∧ m < lc ∧ Im.fn p.fs lc m = nn) ∨ (op = 23 ∧ 0 ≤ m ∧ m < lf) ∨ (op ≠ 21 ∧ op ≠ 22 ∧ op ≠ 23)) := fun hld => by
        unfold Im.leads at hld
        by_cases hj : op = 21 ∨ op = 22
        · rw [if_pos hj] at hld
          simp only [Bool.and_eq_true, decide_eq_true_eq] at hld
          exact .inl ⟨hj, by omega, by omega, Im.fn_in HPP.out hn0 (by rw [hz]; exact hld.1) (by rw [hz1]; exact hld.2)⟩
        · rw [if_neg hj] at hld
          by_cases h23 : op = 23
          · rw [if_pos h23] at hld
            exact .inr (.inl ⟨h23, by omega, of_decide_eq_true hld⟩)
          · exact .inr (.inr ⟨fun h => hj (.inl h), fun h => hj (.inr h), h23⟩)
      have HFG := Lib.hid hfg
      have HNX := Lib.hid hnx
      have HFM := Lib.hid hfm
      have HI := Lib.hid ((HIM.out.f.below H0.out).below (HR.out.mono (by simp)) |>.below (Below.box wr (.cells #[.int .i64 op, .int .i64 a, .int .i64 b, .int .i64 c, .int .u64 m] 43)))
      clear hfg hei hz hz1 hnx hfm
      go_wp2_with fail
      refine (HF.out _ _ HI.out).mono ?_
      rintro e v ⟨rfl, hbv⟩
      rw [hfk]
      have y0 : v.cell? ⟨wr.heap.size, 0, none⟩ = some (.int .i64 op) := cells_below hbv (by simp) (by simp)
      have y4 : v.cell? ⟨wr.heap.size, 4, none⟩ = some (.int .u64 m) := cells_below hbv (by simp) (by simp)
      have hbv' : Below wr.heap.size wr v := (Below.box _ _).trans (hbv.mono (by simp))
      replace c0 := cells_below hbv' c0 hszw
      replace c1 := cells_below hbv' c1 hszw
      replace c2 := cells_below hbv' c2 hszw
      replace c3 := cells_below hbv' c3 hszw
      replace c4 := cells_below hbv' c4 hszw
      replace c5 := cells_below hbv' c5 hszw
      replace HI := Lib.hid (HI.out.below hbv)
      have HV := Lib.hid (HR.out.trans (hbv'.mono (by omega)))
      have LT : Hid (w.heap.size < v.heap.size) := Nat.lt_of_lt_of_le hszw hbv'.size
      have LT2 : Hid (wr.heap.size < v.heap.size) := by have := hbv.size; simp at this; exact this
      clear hbv hbv' x0 x1 x2 x3 x4 HR
      have hwu : IntKind.u64.wrap (lc : Int) = lc := by rw [IntKind.wrap_u64]; omega
      have hwf : IntKind.u64.wrap (lf : Int) = lf := by rw [IntKind.wrap_u64]; omega
      go_wp2_with fail
      cases hob : Im.okB p.fs p.cs k with
      | true =>
        have HOKK := Lib.hid hob
        rw [hob] at hokk
        replace hokk := hokk.symm
        simp only [Bool.and_eq_true, Bool.not_eq_true', Bool.and_eq_false_iff] at hokk
        obtain ⟨hld, hgg⟩ := hokk
        have hop := hopk hld
        have hfg' : Cd.goes op = true → ¬ (k : Int) + 1 = lc ∧ Im.fn p.fs lc ((k : Int) + 1) = nn := fun hgo => HFG.out (by
          rcases hgg with h | h
          · rw [hgo] at h; cases h
          · exact of_decide_eq_false h) hgo
        replace HFG := Lib.hid hfg'
        clear hld hgg hopk hob hfg'
        rcases hop with ⟨hj, hm1, hm2, hfm⟩ | ⟨hj1, hm1, hm2⟩ | ⟨hj1, hj2, hj3⟩
        · have hw : IntKind.i64.wrap m = m := by rw [IntKind.wrap_i64]; omega
          rcases hj with hj | hj
          · subst hj
            have hgo : Cd.goes 21 = false := by decide +kernel
            refine (rgoes_any _ _).mono ?_
            rintro e w9 ⟨rfl, rfl⟩
            rw [hgo]
            clear hgo
            go_wp2_with fail
            refine (HF.out _ _ HI.out).mono ?_
            rintro e v9 ⟨rfl, hbv⟩
            have l1 : w.heap.size < v.heap.size := LT.out
            have l2 : wr.heap.size < v.heap.size := LT2.out
            replace c0 := cells_below hbv c0 l1
            replace c1 := cells_below hbv c1 l1
            replace c2 := cells_below hbv c2 l1
            replace c3 := cells_below hbv c3 l1
            replace c4 := cells_below hbv c4 l1
            replace c5 := cells_below hbv c5 l1
            replace y0 := cells_below hbv y0 l2
            replace y4 := cells_below hbv y4 l2
            replace HI := Lib.hid (HI.out.below hbv)
            replace HV := Lib.hid (HV.out.trans (hbv.mono (by omega)))
            replace LT := Lib.hid (Nat.lt_of_lt_of_le l1 hbv.size)
            replace LT2 := Lib.hid (Nat.lt_of_lt_of_le l2 hbv.size)
            clear hbv l1 l2
            rw [hfm]
            clear hfm
            have hnn : ((nn : Int) != (nn : Int)) = false := by simp
            go_wp2
            go_roundw
            case rel =>
              refine ⟨k + 1, by omega, by go_num, HV.out, fun j hj => ?_⟩
              rcases Nat.lt_succ_iff_lt_or_eq.1 hj with h | h
              · exact HA.out j h
              · rw [h]; exact HOKK.out
            case measure => simp [intOf]; omega
          · subst hj
            have hgo : Cd.goes 22 = true := by decide +kernel
            obtain ⟨hne, hfg⟩ := HFG.out hgo
            have hne' : ((k : Int) + 1 == (lc : Int)) = false := by simpa using hne
            have hnn : ((nn : Int) != (nn : Int)) = false := by simp
            refine (rgoes_any _ _).mono ?_
            rintro e w9 ⟨rfl, rfl⟩
            rw [hgo]
            clear hgo hne
            go_wp2_with fail
            refine (HF.out _ _ HI.out).mono ?_
            rintro e v8 ⟨rfl, hbv⟩
            have l1 : w.heap.size < v.heap.size := LT.out
            have l2 : wr.heap.size < v.heap.size := LT2.out
            replace c0 := cells_below hbv c0 l1
            replace c1 := cells_below hbv c1 l1
            replace c2 := cells_below hbv c2 l1
            replace c3 := cells_below hbv c3 l1
            replace c4 := cells_below hbv c4 l1
            replace c5 := cells_below hbv c5 l1
            replace y0 := cells_below hbv y0 l2
            replace y4 := cells_below hbv y4 l2
            replace HI := Lib.hid (HI.out.below hbv)
            replace HV := Lib.hid (HV.out.trans (hbv.mono (by omega)))
            replace LT := Lib.hid (Nat.lt_of_lt_of_le l1 hbv.size)
            replace LT2 := Lib.hid (Nat.lt_of_lt_of_le l2 hbv.size)
            clear hbv l1 l2
            rw [hfg]
            clear hfg
            go_wp2_with fail
            refine (HF.out _ _ HI.out).mono ?_
            rintro e v9 ⟨rfl, hbv⟩
            have l1 : w.heap.size < v8.heap.size := LT.out
            have l2 : wr.heap.size < v8.heap.size := LT2.out
            replace c0 := cells_below hbv c0 l1
            replace c1 := cells_below hbv c1 l1
            replace c2 := cells_below hbv c2 l1
            replace c3 := cells_below hbv c3 l1
            replace c4 := cells_below hbv c4 l1
            replace c5 := cells_below hbv c5 l1
            replace y0 := cells_below hbv y0 l2
            replace y4 := cells_below hbv y4 l2
            replace HI := Lib.hid (HI.out.below hbv)
            replace HV := Lib.hid (HV.out.trans (hbv.mono (by omega)))
            replace LT := Lib.hid (Nat.lt_of_lt_of_le l1 hbv.size)
            replace LT2 := Lib.hid (Nat.lt_of_lt_of_le l2 hbv.size)
            clear hbv l1 l2
            rw [hfm]
            clear hfm
            go_wp2
            go_roundw
            case rel =>
              refine ⟨k + 1, by omega, by go_num, HV.out, fun j hj => ?_⟩
              rcases Nat.lt_succ_iff_lt_or_eq.1 hj with h | h
              · exact HA.out j h
              · rw [h]; exact HOKK.out
            case measure => simp [intOf]; omega
        · subst hj1
          have hgo : Cd.goes 23 = true := by decide +kernel
          obtain ⟨hne, hfg⟩ := HFG.out hgo
          have hne' : ((k : Int) + 1 == (lc : Int)) = false := by simpa using hne
          have hnn : ((nn : Int) != (nn : Int)) = false := by simp
          have hm4 : m < (lf : Int) := hm2
          refine (rgoes_any _ _).mono ?_
          rintro e w9 ⟨rfl, rfl⟩
          rw [hgo]
          clear hgo hne
          go_wp2_with fail
          refine (HF.out _ _ HI.out).mono ?_
          rintro e v8 ⟨rfl, hbv⟩
          have l1 : w.heap.size < v.heap.size := LT.out
          have l2 : wr.heap.size < v.heap.size := LT2.out
          replace c0 := cells_below hbv c0 l1
          replace c1 := cells_below hbv c1 l1
          replace c2 := cells_below hbv c2 l1
          replace c3 := cells_below hbv c3 l1
          replace c4 := cells_below hbv c4 l1
          replace c5 := cells_below hbv c5 l1
          replace y0 := cells_below hbv y0 l2
          replace y4 := cells_below hbv y4 l2
          replace HI := Lib.hid (HI.out.below hbv)
          replace HV := Lib.hid (HV.out.trans (hbv.mono (by omega)))
          replace LT := Lib.hid (Nat.lt_of_lt_of_le l1 hbv.size)
          replace LT2 := Lib.hid (Nat.lt_of_lt_of_le l2 hbv.size)
          clear hbv l1 l2
          rw [hfg]
          clear hfg
          go_wp2
          go_roundw
          case rel =>
            refine ⟨k + 1, by omega, by go_num, HV.out, fun j hj => ?_⟩
            rcases Nat.lt_succ_iff_lt_or_eq.1 hj with h | h
            · exact HA.out j h
            · rw [h]; exact HOKK.out
          case measure => simp [intOf]; omega
        · have hj1' : (op == 21) = false := by simpa using hj1
          have hj2' : (op == 22) = false := by simpa using hj2
          have hj3' : (op == 23) = false := by simpa using hj3
          refine (rgoes_any _ _).mono ?_
          rintro e w9 ⟨rfl, rfl⟩
          by_cases hgo : Cd.goes op = true
          · obtain ⟨hne, hfg⟩ := HFG.out hgo
            have hne' : ((k : Int) + 1 == (lc : Int)) = false := by simpa using hne
            have hnn : ((nn : Int) != (nn : Int)) = false := by simp
            rw [hgo]
            clear hgo hne
            go_wp2_with fail
            refine (HF.out _ _ HI.out).mono ?_
            rintro e v8 ⟨rfl, hbv⟩
            have l1 : w.heap.size < v.heap.size := LT.out
            have l2 : wr.heap.size < v.heap.size := LT2.out
            replace c0 := cells_below hbv c0 l1
            replace c1 := cells_below hbv c1 l1
            replace c2 := cells_below hbv c2 l1
            replace c3 := cells_below hbv c3 l1
            replace c4 := cells_below hbv c4 l1
            replace c5 := cells_below hbv c5 l1
            replace y0 := cells_below hbv y0 l2
            replace y4 := cells_below hbv y4 l2
            replace HI := Lib.hid (HI.out.below hbv)
            replace HV := Lib.hid (HV.out.trans (hbv.mono (by omega)))
            replace LT := Lib.hid (Nat.lt_of_lt_of_le l1 hbv.size)
            replace LT2 := Lib.hid (Nat.lt_of_lt_of_le l2 hbv.size)
            clear hbv l1 l2
            rw [hfg]
            clear hfg
            go_wp2
            go_roundw
            case rel =>
              refine ⟨k + 1, by omega, by go_num, HV.out, fun j hj => ?_⟩
              rcases Nat.lt_succ_iff_lt_or_eq.1 hj with h | h
              · exact HA.out j h
              · rw [h]; exact HOKK.out
            case measure => simp [intOf]; omega
          · have hgo' : Cd.goes op = false := by simpa using hgo
            rw [hgo']
            clear hgo hgo'
            go_wp2
            go_roundw
            case rel =>
              refine ⟨k + 1, by omega, by go_num, HV.out, fun j hj => ?_⟩
              rcases Nat.lt_succ_iff_lt_or_eq.1 hj with h | h
              · exact HA.out j h
              · rw [h]; exact HOKK.out
            case measure => simp [intOf]; omega
      | false =>
        have HOKK := Lib.hid hob
        rw [hob] at hokk
        replace hokk := hokk.symm
        have hbd : (Cd.goes op = true ∧ (k : Int) + 1 = z1) ∨ (¬ (Cd.goes op = true ∧ (k : Int) + 1 = z1) ∧ Im.leads ⟨op, a, b, c, m⟩ z z1 lf = false) := by
          by_cases h : Cd.goes op = true ∧ (k : Int) + 1 = z1
          · exact .inl h
          · refine .inr ⟨h, ?_⟩
            rw [Bool.and_eq_false_iff] at hokk
            rcases hokk with h1 | h1
            · exact h1
            · simp at h1
              exact absurd h1 h
        clear hokk hob hopk
        rcases hbd with ⟨hgo, hti⟩ | ⟨hng, hld⟩
        · have HTI := Lib.hid hti
          clear hti
          refine (rgoes_any _ _).mono ?_
          rintro e w9 ⟨rfl, rfl⟩
          rw [hgo]
          clear hgo
          by_cases hl : (k : Int) + 1 = lc
          · have hl' : ((k : Int) + 1 == (lc : Int)) = true := by simpa using hl
            clear hl
            go_wp2
            go_ret
            exact ⟨cret_int (Im.st_at (by have := HCL.out; omega) HOKK.out HA.out).symm, H0.out.trans (HV.out.mono (by omega))⟩
          · have hl' : ((k : Int) + 1 == (lc : Int)) = false := by simpa using hl
            have hfg : Im.fn p.fs lc ((k : Int) + 1) = ((nn + 1 : Nat) : Int) := HNX.out HTI.out hl
            clear hl
            go_wp2_with fail
            refine (HF.out _ _ HI.out).mono ?_
            rintro e v8 ⟨rfl, hbv⟩
            have l1 : w.heap.size < v.heap.size := LT.out
            have l2 : wr.heap.size < v.heap.size := LT2.out
            replace c0 := cells_below hbv c0 l1
            replace c1 := cells_below hbv c1 l1
            replace c2 := cells_below hbv c2 l1
            replace c3 := cells_below hbv c3 l1
            replace c4 := cells_below hbv c4 l1
            replace c5 := cells_below hbv c5 l1
            replace y0 := cells_below hbv y0 l2
            replace y4 := cells_below hbv y4 l2
            replace HI := Lib.hid (HI.out.below hbv)
            replace HV := Lib.hid (HV.out.trans (hbv.mono (by omega)))
            replace LT := Lib.hid (Nat.lt_of_lt_of_le l1 hbv.size)
            replace LT2 := Lib.hid (Nat.lt_of_lt_of_le l2 hbv.size)
            clear hbv l1 l2
            rw [hfg]
            clear hfg
            have hnn : (((nn + 1 : Nat) : Int) != (nn : Int)) = true := by
              have : ¬ ((nn + 1 : Nat) : Int) = (nn : Int) := by omega
              simpa using this
            go_wp2
            go_ret
            exact ⟨cret_int (Im.st_at (by have := HCL.out; omega) HOKK.out HA.out).symm, H0.out.trans (HV.out.mono (by omega))⟩
        · have hkind : (op = 21 ∨ op = 22) ∨ op = 23 := by
            unfold Im.leads at hld
            simp only at hld
            by_cases h1 : op = 21 ∨ op = 22
            · exact .inl h1
            · rw [if_neg h1] at hld
              by_cases h2 : op = 23
              · exact .inr h2
              · rw [if_neg h2] at hld; cases hld
          rcases hkind with h12 | h23
          · have hlm : ¬ (z ≤ m ∧ m < z1) := by
              unfold Im.leads at hld
              simp only at hld
              rw [if_pos h12] at hld
              intro h
              rw [decide_eq_true h.1, decide_eq_true h.2] at hld
              cases hld
            have hwu : IntKind.u64.wrap (lc : Int) = lc := by rw [IntKind.wrap_u64]; omega
            rcases h12 with hj | hj
            · subst hj
              have hgo : Cd.goes 21 = false := by decide +kernel
              refine (rgoes_any _ _).mono ?_
              rintro e w9 ⟨rfl, rfl⟩
              rw [hgo]
              clear hgo hld
              by_cases hml : (lc : Int) ≤ m
              · go_wp2
                go_ret
                exact ⟨cret_int (Im.st_at (by have := HCL.out; omega) HOKK.out HA.out).symm, H0.out.trans (HV.out.mono (by omega))⟩
              · have hw : IntKind.i64.wrap m = m := by rw [IntKind.wrap_i64]; omega
                have hfm := HFM.out hlm
                have hml' : m < (lc : Int) := by omega
                go_wp2_with fail
                refine (HF.out _ _ HI.out).mono ?_
                rintro e v9 ⟨rfl, hbv⟩
                have l1 : w.heap.size < v.heap.size := LT.out
                have l2 : wr.heap.size < v.heap.size := LT2.out
                replace c0 := cells_below hbv c0 l1
                replace c1 := cells_below hbv c1 l1
                replace c2 := cells_below hbv c2 l1
                replace c3 := cells_below hbv c3 l1
                replace c4 := cells_below hbv c4 l1
                replace c5 := cells_below hbv c5 l1
                replace y0 := cells_below hbv y0 l2
                replace y4 := cells_below hbv y4 l2
                replace HI := Lib.hid (HI.out.below hbv)
                replace HV := Lib.hid (HV.out.trans (hbv.mono (by omega)))
                replace LT := Lib.hid (Nat.lt_of_lt_of_le l1 hbv.size)
                replace LT2 := Lib.hid (Nat.lt_of_lt_of_le l2 hbv.size)
                clear hbv l1 l2
                have hnn : (Im.fn p.fs lc m != (nn : Int)) = true := by simpa using hfm
                go_wp2
                go_ret
                exact ⟨cret_int (Im.st_at (by have := HCL.out; omega) HOKK.out HA.out).symm, H0.out.trans (HV.out.mono (by omega))⟩
            · subst hj
              have hgo : Cd.goes 22 = true := by decide +kernel
              obtain ⟨hne, hfg⟩ := HFG.out (fun h => hng ⟨hgo, h⟩) hgo
              have hne' : ((k : Int) + 1 == (lc : Int)) = false := by simpa using hne
              have hnn0 : ((nn : Int) != (nn : Int)) = false := by simp
              refine (rgoes_any _ _).mono ?_
              rintro e w9 ⟨rfl, rfl⟩
              rw [hgo]
              clear hgo hld hne
              go_wp2_with fail
              refine (HF.out _ _ HI.out).mono ?_
              rintro e v8 ⟨rfl, hbv⟩
              have l1 : w.heap.size < v.heap.size := LT.out
              have l2 : wr.heap.size < v.heap.size := LT2.out
              replace c0 := cells_below hbv c0 l1
              replace c1 := cells_below hbv c1 l1
              replace c2 := cells_below hbv c2 l1
              replace c3 := cells_below hbv c3 l1
              replace c4 := cells_below hbv c4 l1
              replace c5 := cells_below hbv c5 l1
              replace y0 := cells_below hbv y0 l2
              replace y4 := cells_below hbv y4 l2
              replace HI := Lib.hid (HI.out.below hbv)
              replace HV := Lib.hid (HV.out.trans (hbv.mono (by omega)))
              replace LT := Lib.hid (Nat.lt_of_lt_of_le l1 hbv.size)
              replace LT2 := Lib.hid (Nat.lt_of_lt_of_le l2 hbv.size)
              clear hbv l1 l2
              rw [hfg]
              clear hfg
              by_cases hml : (lc : Int) ≤ m
              · go_wp2
                go_ret
                exact ⟨cret_int (Im.st_at (by have := HCL.out; omega) HOKK.out HA.out).symm, H0.out.trans (HV.out.mono (by omega))⟩
              · have hw : IntKind.i64.wrap m = m := by rw [IntKind.wrap_i64]; omega
                have hfm := HFM.out hlm
                have hml' : m < (lc : Int) := by omega
                go_wp2_with fail
                refine (HF.out _ _ HI.out).mono ?_
                rintro e v9 ⟨rfl, hbv⟩
                have l1 : w.heap.size < v8.heap.size := LT.out
                have l2 : wr.heap.size < v8.heap.size := LT2.out
                replace c0 := cells_below hbv c0 l1
                replace c1 := cells_below hbv c1 l1
                replace c2 := cells_below hbv c2 l1
                replace c3 := cells_below hbv c3 l1
                replace c4 := cells_below hbv c4 l1
                replace c5 := cells_below hbv c5 l1
                replace y0 := cells_below hbv y0 l2
                replace y4 := cells_below hbv y4 l2
                replace HI := Lib.hid (HI.out.below hbv)
                replace HV := Lib.hid (HV.out.trans (hbv.mono (by omega)))
                replace LT := Lib.hid (Nat.lt_of_lt_of_le l1 hbv.size)
                replace LT2 := Lib.hid (Nat.lt_of_lt_of_le l2 hbv.size)
                clear hbv l1 l2
                have hnn : (Im.fn p.fs lc m != (nn : Int)) = true := by simpa using hfm
                go_wp2
                go_ret
                exact ⟨cret_int (Im.st_at (by have := HCL.out; omega) HOKK.out HA.out).symm, H0.out.trans (HV.out.mono (by omega))⟩
          · have hlm : ¬ m < lf := by
              unfold Im.leads at hld
              simp only at hld
              rw [if_neg (by omega), if_pos h23] at hld
              exact of_decide_eq_false hld
            subst h23
            have hgo : Cd.goes 23 = true := by decide +kernel
            obtain ⟨hne, hfg⟩ := HFG.out (fun h => hng ⟨hgo, h⟩) hgo
            have hne' : ((k : Int) + 1 == (lc : Int)) = false := by simpa using hne
            have hnn0 : ((nn : Int) != (nn : Int)) = false := by simp
            have hm4 : (lf : Int) ≤ m := by omega
            have hwu : IntKind.u64.wrap (lf : Int) = lf := by rw [IntKind.wrap_u64]; omega
            refine (rgoes_any _ _).mono ?_
            rintro e w9 ⟨rfl, rfl⟩
            rw [hgo]
            clear hgo hld hne
            go_wp2_with fail
            refine (HF.out _ _ HI.out).mono ?_
            rintro e v8 ⟨rfl, hbv⟩
            have l1 : w.heap.size < v.heap.size := LT.out
            have l2 : wr.heap.size < v.heap.size := LT2.out
            replace c0 := cells_below hbv c0 l1
            replace c1 := cells_below hbv c1 l1
            replace c2 := cells_below hbv c2 l1
            replace c3 := cells_below hbv c3 l1
            replace c4 := cells_below hbv c4 l1
            replace c5 := cells_below hbv c5 l1
            replace y0 := cells_below hbv y0 l2
            replace y4 := cells_below hbv y4 l2
            replace HI := Lib.hid (HI.out.below hbv)
            replace HV := Lib.hid (HV.out.trans (hbv.mono (by omega)))
            replace LT := Lib.hid (Nat.lt_of_lt_of_le l1 hbv.size)
            replace LT2 := Lib.hid (Nat.lt_of_lt_of_le l2 hbv.size)
            clear hbv l1 l2
            rw [hfg]
            clear hfg
            go_wp2
            go_ret
            exact ⟨cret_int (Im.st_at (by have := HCL.out; omega) HOKK.out HA.out).symm, H0.out.trans (HV.out.mono (by omega))⟩
    · have hkl : k = lc := by omega
      have hall : ∀ j, j < p.cs.length → Im.okB p.fs p.cs j = true := fun j hj => HA.out j (by have := HCL.out; omega)
      have HST := Lib.hid (Im.st_none hall)
      clear hkl hall
      go_wp2
      go_ret
      exact ⟨cret_int HST.out.symm, H0.out.trans (HR.out.mono (by omega))⟩
end Go.Proofs.YtjadiijjahjjoaaDoor
