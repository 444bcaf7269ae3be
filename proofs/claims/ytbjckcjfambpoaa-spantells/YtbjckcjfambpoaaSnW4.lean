/-
  Layer 11: less, below, compare.
-/
import Derived.Test.YtbjckcjfambpoaaSnW3
namespace Go.Proofs.Ytbjckcjfambpoaa
set_option linter.unusedSimpArgs false
set_option linter.unusedVariables false
open Go.RowKit Go.Maps
set_option maxRecDepth 100000

theorem Sn.sgn_pos {a x : Int} (h0 : 0 ≤ x) (h1 : x ≤ Wd.msk a) : (Wd.sgn a x ≥ 0) ↔ x < Wd.hib a := by
  have e := Wd.sgn_word a x h0 (by unfold Wd.msk at h1; omega)
  have hm : Wd.msk a = Wd.pw (Wd.wid a) - 1 := rfl
  rw [e]; split <;> omega
theorem Sn.sgn_neg {a x : Int} (h0 : 0 ≤ x) (h1 : x ≤ Wd.msk a) : (Wd.sgn a x < 0) ↔ Wd.hib a ≤ x := by
  have e := Wd.sgn_word a x h0 (by unfold Wd.msk at h1; omega)
  have hm : Wd.msk a = Wd.pw (Wd.wid a) - 1 := rfl
  rw [e]; split <;> omega
theorem low_any (a : Int) (s : Sn.S) (hs : Sn.Ok a s) (w : World) :
    Calls Try.prog 62 #[.int .i64 a, Sn.v s] w fun e w' => e = .returned (.bool (decide (s.2 < Wd.hib a))) ∧ Below w.heap.size w w' := by
  have h := inLower_any a s w
  rw [decide_eq_decide.2 (Sn.sgn_pos (Int.le_trans hs.1 hs.2.1) hs.2.2)] at h
  exact h
theorem upp_any (a : Int) (s : Sn.S) (hs : Sn.Ok a s) (w : World) :
    Calls Try.prog 86 #[.int .i64 a, Sn.v s] w fun e w' => e = .returned (.bool (decide (Wd.hib a ≤ s.1))) ∧ Below w.heap.size w w' := by
  have h := inUpper_any a s w
  rw [decide_eq_decide.2 (Sn.sgn_neg hs.1 (Int.le_trans hs.2.1 hs.2.2))] at h
  exact h

set_option maxHeartbeats 1600000 in
theorem sless_any (x y : Sn.S) (w : World) :
    Calls Try.prog 63 #[Sn.v x, Sn.v y] w fun e w' => e = .returned (Sn.v (Sn.less x y)) ∧ Below w.heap.size w w' := by
  obtain ⟨x1, x2⟩ := x
  obtain ⟨y1, y2⟩ := y
  show Calls Try.prog 63 #[.agg #[.int .u64 x1, .int .u64 x2], .agg #[.int .u64 y1, .int .u64 y2]] w _
  unfold Sn.less
  dsimp only
  by_cases h1 : x2 < y1
  · rw [if_pos h1]
    go_enter Try.func63, Try.ntmps63
    go_wp2_with fail
    have hB : Below w.heap.size w (((w.alloc (.cells #[.int .u64 x1, .int .u64 x2] 24)).alloc (.cells #[.int .u64 y1, .int .u64 y2] 24)).alloc (.cells #[.int .u64 0, .int .u64 0] 24)) := ((((Below.refl _ _).alloc (Nat.le_refl _) _).alloc (by simp) _).alloc (by simp; omega) _)
    have hr0 : Sn.Bk (((w.alloc (.cells #[.int .u64 x1, .int .u64 x2] 24)).alloc (.cells #[.int .u64 y1, .int .u64 y2] 24)).alloc (.cells #[.int .u64 0, .int .u64 0] 24)) (w.heap.size) 24 #[.int .u64 x1, .int .u64 x2] := Sn.bk_old (Sn.bk_old (Sn.bk_new _ _ _) _) _
    have hr1 : Sn.Bk (((w.alloc (.cells #[.int .u64 x1, .int .u64 x2] 24)).alloc (.cells #[.int .u64 y1, .int .u64 y2] 24)).alloc (.cells #[.int .u64 0, .int .u64 0] 24)) (w.heap.size + 1) 24 #[.int .u64 y1, .int .u64 y2] := Sn.bk_old (Sn.bk_at (by simp)) _
    have hr2 : Sn.Bk (((w.alloc (.cells #[.int .u64 x1, .int .u64 x2] 24)).alloc (.cells #[.int .u64 y1, .int .u64 y2] 24)).alloc (.cells #[.int .u64 0, .int .u64 0] 24)) (w.heap.size + 1 + 1) 24 #[.int .u64 0, .int .u64 0] := Sn.bk_at (by simp)
    generalize (((w.alloc (.cells #[.int .u64 x1, .int .u64 x2] 24)).alloc (.cells #[.int .u64 y1, .int .u64 y2] 24)).alloc (.cells #[.int .u64 0, .int .u64 0] 24)) = v at *
    have HB := Lib.hid hB
    have HR0 := Lib.hid hr0
    have HR1 := Lib.hid hr1
    have HR2 := Lib.hid hr2
    clear hB hr0 hr1 hr2
    refine (point_any 1 v).mono ?_
    rintro e v2 ⟨rfl, hb⟩
    have hr2 := Sn.bk_below HR2.out hb (Sn.bk_lt HR2.out)
    have hB := Sn.below_next HB.out hb HB.out.size
    clear HB HR2 hb
    have HB := Lib.hid hB
    have HR2 := Lib.hid hr2
    clear hB hr2
    have H1C := Lib.hid (show (#[.int .u64 1, .int .u64 1] : Array Value).all (·.oneCell') = true from by simp [Value.oneCell'])
    go_wp2_with (with_reducible refine Sn.store_sp (.tmp 4) (.tmp 11) (w.heap.size + 1 + 1) #[.int .u64 0, .int .u64 0] #[.int .u64 1, .int .u64 1] HR2.out rfl rfl rfl rfl rfl rfl H1C.out ?_)
    refine Sn.ret_sp (w.heap.size + 1 + 1) _ (Sn.bk_row HR2.out _) rfl rfl rfl rfl ?_
    exact ⟨rfl, Sn.below_set HB.out (by omega) _⟩
  · rw [if_neg h1]
    by_cases h2 : y2 ≤ x1
    · rw [if_pos h2]
      go_enter Try.func63, Try.ntmps63
      go_wp2_with fail
      have hB : Below w.heap.size w (((w.alloc (.cells #[.int .u64 x1, .int .u64 x2] 24)).alloc (.cells #[.int .u64 y1, .int .u64 y2] 24)).alloc (.cells #[.int .u64 0, .int .u64 0] 24)) := ((((Below.refl _ _).alloc (Nat.le_refl _) _).alloc (by simp) _).alloc (by simp; omega) _)
      have hr0 : Sn.Bk (((w.alloc (.cells #[.int .u64 x1, .int .u64 x2] 24)).alloc (.cells #[.int .u64 y1, .int .u64 y2] 24)).alloc (.cells #[.int .u64 0, .int .u64 0] 24)) (w.heap.size) 24 #[.int .u64 x1, .int .u64 x2] := Sn.bk_old (Sn.bk_old (Sn.bk_new _ _ _) _) _
      have hr1 : Sn.Bk (((w.alloc (.cells #[.int .u64 x1, .int .u64 x2] 24)).alloc (.cells #[.int .u64 y1, .int .u64 y2] 24)).alloc (.cells #[.int .u64 0, .int .u64 0] 24)) (w.heap.size + 1) 24 #[.int .u64 y1, .int .u64 y2] := Sn.bk_old (Sn.bk_at (by simp)) _
      have hr2 : Sn.Bk (((w.alloc (.cells #[.int .u64 x1, .int .u64 x2] 24)).alloc (.cells #[.int .u64 y1, .int .u64 y2] 24)).alloc (.cells #[.int .u64 0, .int .u64 0] 24)) (w.heap.size + 1 + 1) 24 #[.int .u64 0, .int .u64 0] := Sn.bk_at (by simp)
      generalize (((w.alloc (.cells #[.int .u64 x1, .int .u64 x2] 24)).alloc (.cells #[.int .u64 y1, .int .u64 y2] 24)).alloc (.cells #[.int .u64 0, .int .u64 0] 24)) = v at *
      have HB := Lib.hid hB
      have HR0 := Lib.hid hr0
      have HR1 := Lib.hid hr1
      have HR2 := Lib.hid hr2
      clear hB hr0 hr1 hr2
      refine (point_any 0 v).mono ?_
      rintro e v2 ⟨rfl, hb⟩
      have hr2 := Sn.bk_below HR2.out hb (Sn.bk_lt HR2.out)
      have hB := Sn.below_next HB.out hb HB.out.size
      clear HB HR2 hb
      have HB := Lib.hid hB
      have HR2 := Lib.hid hr2
      clear hB hr2
      have H1C := Lib.hid (show (#[.int .u64 0, .int .u64 0] : Array Value).all (·.oneCell') = true from by simp [Value.oneCell'])
      go_wp2_with (with_reducible refine Sn.store_sp (.tmp 4) (.tmp 18) (w.heap.size + 1 + 1) #[.int .u64 0, .int .u64 0] #[.int .u64 0, .int .u64 0] HR2.out rfl rfl rfl rfl rfl rfl H1C.out ?_)
      refine Sn.ret_sp (w.heap.size + 1 + 1) _ (Sn.bk_row HR2.out _) rfl rfl rfl rfl ?_
      exact ⟨rfl, Sn.below_set HB.out (by omega) _⟩
    · rw [if_neg h2]
      go_enter Try.func63, Try.ntmps63
      go_wp2_with fail
      have hB : Below w.heap.size w (((w.alloc (.cells #[.int .u64 x1, .int .u64 x2] 24)).alloc (.cells #[.int .u64 y1, .int .u64 y2] 24)).alloc (.cells #[.int .u64 0, .int .u64 0] 24)) := ((((Below.refl _ _).alloc (Nat.le_refl _) _).alloc (by simp) _).alloc (by simp; omega) _)
      have hr0 : Sn.Bk (((w.alloc (.cells #[.int .u64 x1, .int .u64 x2] 24)).alloc (.cells #[.int .u64 y1, .int .u64 y2] 24)).alloc (.cells #[.int .u64 0, .int .u64 0] 24)) (w.heap.size) 24 #[.int .u64 x1, .int .u64 x2] := Sn.bk_old (Sn.bk_old (Sn.bk_new _ _ _) _) _
      have hr1 : Sn.Bk (((w.alloc (.cells #[.int .u64 x1, .int .u64 x2] 24)).alloc (.cells #[.int .u64 y1, .int .u64 y2] 24)).alloc (.cells #[.int .u64 0, .int .u64 0] 24)) (w.heap.size + 1) 24 #[.int .u64 y1, .int .u64 y2] := Sn.bk_old (Sn.bk_at (by simp)) _
      have hr2 : Sn.Bk (((w.alloc (.cells #[.int .u64 x1, .int .u64 x2] 24)).alloc (.cells #[.int .u64 y1, .int .u64 y2] 24)).alloc (.cells #[.int .u64 0, .int .u64 0] 24)) (w.heap.size + 1 + 1) 24 #[.int .u64 0, .int .u64 0] := Sn.bk_at (by simp)
      generalize (((w.alloc (.cells #[.int .u64 x1, .int .u64 x2] 24)).alloc (.cells #[.int .u64 y1, .int .u64 y2] 24)).alloc (.cells #[.int .u64 0, .int .u64 0] 24)) = v at *
      have HB := Lib.hid hB
      have HR0 := Lib.hid hr0
      have HR1 := Lib.hid hr1
      have HR2 := Lib.hid hr2
      clear hB hr0 hr1 hr2
      refine (either_any v).mono ?_
      rintro e v2 ⟨rfl, hb⟩
      have hr2 := Sn.bk_below HR2.out hb (Sn.bk_lt HR2.out)
      have hB := Sn.below_next HB.out hb HB.out.size
      clear HB HR2 hb
      have HB := Lib.hid hB
      have HR2 := Lib.hid hr2
      clear hB hr2
      have H1C := Lib.hid (show (#[.int .u64 0, .int .u64 1] : Array Value).all (·.oneCell') = true from by simp [Value.oneCell'])
      go_wp2_with (with_reducible refine Sn.store_sp (.tmp 4) (.tmp 19) (w.heap.size + 1 + 1) #[.int .u64 0, .int .u64 0] #[.int .u64 0, .int .u64 1] HR2.out rfl rfl rfl rfl rfl rfl H1C.out ?_)
      refine Sn.ret_sp (w.heap.size + 1 + 1) _ (Sn.bk_row HR2.out _) rfl rfl rfl rfl ?_
      exact ⟨rfl, Sn.below_set HB.out (by omega) _⟩

theorem low_is {a : Int} {s : Sn.S} (hs : Sn.Ok a s) {b : Bool} (hb : decide (s.2 < Wd.hib a) = b) (w : World) :
    Calls Try.prog 62 #[.int .i64 a, Sn.v s] w fun e w' => e = .returned (.bool b) ∧ Below w.heap.size w w' := hb ▸ low_any a s hs w
theorem upp_is {a : Int} {s : Sn.S} (hs : Sn.Ok a s) {b : Bool} (hb : decide (Wd.hib a ≤ s.1) = b) (w : World) :
    Calls Try.prog 86 #[.int .i64 a, Sn.v s] w fun e w' => e = .returned (.bool b) ∧ Below w.heap.size w w' := hb ▸ upp_any a s hs w

set_option maxHeartbeats 12800000 in
theorem sbelow_any (a : Int) (x y : Sn.S) (hx : Sn.Ok a x) (hy : Sn.Ok a y) (w : World) :
    Calls Try.prog 64 #[.int .i64 a, Sn.v x, Sn.v y] w fun e w' => e = .returned (Sn.v (Sn.below a x y)) ∧ Below w.heap.size w w' := by
  obtain ⟨x1, x2⟩ := x
  obtain ⟨y1, y2⟩ := y
  show Calls Try.prog 64 #[.int .i64 a, .agg #[.int .u64 x1, .int .u64 x2], .agg #[.int .u64 y1, .int .u64 y2]] w _
  have hx2 := hx
  have hy2 := hy
  unfold Sn.Ok at hx2 hy2
  dsimp only at hx2 hy2
  unfold Sn.below
  dsimp only
  have HLS := Lib.hid (fun W => sless_any (x1, x2) (y1, y2) W)
  generalize Sn.less (x1, x2) (y1, y2) = ls at *
  obtain ⟨l1, l2⟩ := ls
  by_cases gx1 : x2 < Wd.hib a
  · by_cases gy1 : y2 < Wd.hib a
    · rw [if_pos (by omega)]
      have HLX := Lib.hid (fun W => low_is hx (b := true) (by simp only [decide_eq_true_eq, decide_eq_false_iff_not]; omega) W)
      have HUX := Lib.hid (fun W => upp_is hx (b := false) (by simp only [decide_eq_true_eq, decide_eq_false_iff_not]; omega) W)
      have HLY := Lib.hid (fun W => low_is hy (b := true) (by simp only [decide_eq_true_eq, decide_eq_false_iff_not]; omega) W)
      have HUY := Lib.hid (fun W => upp_is hy (b := false) (by simp only [decide_eq_true_eq, decide_eq_false_iff_not]; omega) W)
      clear hx hy hx2 hy2 gx1 gy1
      go_enter Try.func64, Try.ntmps64
      go_upto_region 1 with (fail)
      have hB : Below w.heap.size w (((w.alloc (.cells #[.int .u64 x1, .int .u64 x2] 24)).alloc (.cells #[.int .u64 y1, .int .u64 y2] 24)).alloc (.cells #[.int .u64 0, .int .u64 0] 24)) := ((((Below.refl _ _).alloc (Nat.le_refl _) _).alloc (by simp) _).alloc (by simp; omega) _)
      have hr0 : Sn.Bk (((w.alloc (.cells #[.int .u64 x1, .int .u64 x2] 24)).alloc (.cells #[.int .u64 y1, .int .u64 y2] 24)).alloc (.cells #[.int .u64 0, .int .u64 0] 24)) (w.heap.size) 24 #[.int .u64 x1, .int .u64 x2] := Sn.bk_old (Sn.bk_old (Sn.bk_new _ _ _) _) _
      have hr1 : Sn.Bk (((w.alloc (.cells #[.int .u64 x1, .int .u64 x2] 24)).alloc (.cells #[.int .u64 y1, .int .u64 y2] 24)).alloc (.cells #[.int .u64 0, .int .u64 0] 24)) (w.heap.size + 1) 24 #[.int .u64 y1, .int .u64 y2] := Sn.bk_old (Sn.bk_at (by simp)) _
      have hr2 : Sn.Bk (((w.alloc (.cells #[.int .u64 x1, .int .u64 x2] 24)).alloc (.cells #[.int .u64 y1, .int .u64 y2] 24)).alloc (.cells #[.int .u64 0, .int .u64 0] 24)) (w.heap.size + 1 + 1) 24 #[.int .u64 0, .int .u64 0] := Sn.bk_at (by simp)
      generalize (((w.alloc (.cells #[.int .u64 x1, .int .u64 x2] 24)).alloc (.cells #[.int .u64 y1, .int .u64 y2] 24)).alloc (.cells #[.int .u64 0, .int .u64 0] 24)) = v at *
      have HB := Lib.hid hB
      have HR0 := Lib.hid hr0
      have HR1 := Lib.hid hr1
      have HR2 := Lib.hid hr2
      clear hB hr0 hr1 hr2
      have c0_0 := Sn.bk_c HR0.out 0
      have c0_1 := Sn.bk_c HR0.out 1
      have c1_0 := Sn.bk_c HR1.out 0
      have c1_1 := Sn.bk_c HR1.out 1
      simp only [List.getElem?_toArray, List.getElem?_cons_zero, List.getElem?_cons_succ] at c0_0 c0_1 c1_0 c1_1
      go_wp2_with fail
      clear c0_0 c0_1 c1_0 c1_1
      refine (HLX.out v).mono ?_
      rintro e v2 ⟨rfl, hb⟩
      have hr0 := Sn.bk_below HR0.out hb (Sn.bk_lt HR0.out)
      have hr1 := Sn.bk_below HR1.out hb (Sn.bk_lt HR1.out)
      have hr2 := Sn.bk_below HR2.out hb (Sn.bk_lt HR2.out)
      have hB := Sn.below_next HB.out hb HB.out.size
      clear HB HR0 HR1 HR2 hb
      have HB := Lib.hid hB
      have HR0 := Lib.hid hr0
      have HR1 := Lib.hid hr1
      have HR2 := Lib.hid hr2
      clear hB hr0 hr1 hr2
      clear v
      rename World => v
      have c0_0 := Sn.bk_c HR0.out 0
      have c0_1 := Sn.bk_c HR0.out 1
      have c1_0 := Sn.bk_c HR1.out 0
      have c1_1 := Sn.bk_c HR1.out 1
      simp only [List.getElem?_toArray, List.getElem?_cons_zero, List.getElem?_cons_succ] at c0_0 c0_1 c1_0 c1_1
      go_wp2_with fail
      clear c0_0 c0_1 c1_0 c1_1
      refine (HLY.out v).mono ?_
      rintro e v2 ⟨rfl, hb⟩
      have hr0 := Sn.bk_below HR0.out hb (Sn.bk_lt HR0.out)
      have hr1 := Sn.bk_below HR1.out hb (Sn.bk_lt HR1.out)
      have hr2 := Sn.bk_below HR2.out hb (Sn.bk_lt HR2.out)
      have hB := Sn.below_next HB.out hb HB.out.size
      clear HB HR0 HR1 HR2 hb
      have HB := Lib.hid hB
      have HR0 := Lib.hid hr0
      have HR1 := Lib.hid hr1
      have HR2 := Lib.hid hr2
      clear hB hr0 hr1 hr2
      clear v
      rename World => v
      have c0_0 := Sn.bk_c HR0.out 0
      have c0_1 := Sn.bk_c HR0.out 1
      have c1_0 := Sn.bk_c HR1.out 0
      have c1_1 := Sn.bk_c HR1.out 1
      simp only [List.getElem?_toArray, List.getElem?_cons_zero, List.getElem?_cons_succ] at c0_0 c0_1 c1_0 c1_1
      go_wp2_with fail
      clear c0_0 c0_1 c1_0 c1_1
      refine (HLS.out v).mono ?_
      rintro e v2 ⟨rfl, hb⟩
      have hr2 := Sn.bk_below HR2.out hb (Sn.bk_lt HR2.out)
      have hB := Sn.below_next HB.out hb HB.out.size
      clear HB HR2 hb
      have HB := Lib.hid hB
      have HR2 := Lib.hid hr2
      clear hB hr2
      have H1C := Lib.hid (show (#[.int .u64 l1, .int .u64 l2] : Array Value).all (·.oneCell') = true from by simp [Value.oneCell'])
      go_wp2_with (with_reducible refine Sn.store_sp (.tmp 6) (.tmp 26) (w.heap.size + 1 + 1) #[.int .u64 0, .int .u64 0] #[.int .u64 l1, .int .u64 l2] HR2.out rfl rfl rfl rfl rfl rfl H1C.out ?_)
      refine Sn.ret_sp (w.heap.size + 1 + 1) _ (Sn.bk_row HR2.out _) rfl rfl rfl rfl ?_
      exact ⟨rfl, Sn.below_set HB.out (by omega) _⟩
    · by_cases gy2 : Wd.hib a ≤ y1
      · rw [if_neg (by omega), if_neg (by omega), if_pos (by omega)]
        have HLX := Lib.hid (fun W => low_is hx (b := true) (by simp only [decide_eq_true_eq, decide_eq_false_iff_not]; omega) W)
        have HUX := Lib.hid (fun W => upp_is hx (b := false) (by simp only [decide_eq_true_eq, decide_eq_false_iff_not]; omega) W)
        have HLY := Lib.hid (fun W => low_is hy (b := false) (by simp only [decide_eq_true_eq, decide_eq_false_iff_not]; omega) W)
        have HUY := Lib.hid (fun W => upp_is hy (b := true) (by simp only [decide_eq_true_eq, decide_eq_false_iff_not]; omega) W)
        clear hx hy hx2 hy2 gx1 gy1 gy2
        go_enter Try.func64, Try.ntmps64
        go_upto_region 1 with (fail)
        have hB : Below w.heap.size w (((w.alloc (.cells #[.int .u64 x1, .int .u64 x2] 24)).alloc (.cells #[.int .u64 y1, .int .u64 y2] 24)).alloc (.cells #[.int .u64 0, .int .u64 0] 24)) := ((((Below.refl _ _).alloc (Nat.le_refl _) _).alloc (by simp) _).alloc (by simp; omega) _)
        have hr0 : Sn.Bk (((w.alloc (.cells #[.int .u64 x1, .int .u64 x2] 24)).alloc (.cells #[.int .u64 y1, .int .u64 y2] 24)).alloc (.cells #[.int .u64 0, .int .u64 0] 24)) (w.heap.size) 24 #[.int .u64 x1, .int .u64 x2] := Sn.bk_old (Sn.bk_old (Sn.bk_new _ _ _) _) _
        have hr1 : Sn.Bk (((w.alloc (.cells #[.int .u64 x1, .int .u64 x2] 24)).alloc (.cells #[.int .u64 y1, .int .u64 y2] 24)).alloc (.cells #[.int .u64 0, .int .u64 0] 24)) (w.heap.size + 1) 24 #[.int .u64 y1, .int .u64 y2] := Sn.bk_old (Sn.bk_at (by simp)) _
        have hr2 : Sn.Bk (((w.alloc (.cells #[.int .u64 x1, .int .u64 x2] 24)).alloc (.cells #[.int .u64 y1, .int .u64 y2] 24)).alloc (.cells #[.int .u64 0, .int .u64 0] 24)) (w.heap.size + 1 + 1) 24 #[.int .u64 0, .int .u64 0] := Sn.bk_at (by simp)
        generalize (((w.alloc (.cells #[.int .u64 x1, .int .u64 x2] 24)).alloc (.cells #[.int .u64 y1, .int .u64 y2] 24)).alloc (.cells #[.int .u64 0, .int .u64 0] 24)) = v at *
        have HB := Lib.hid hB
        have HR0 := Lib.hid hr0
        have HR1 := Lib.hid hr1
        have HR2 := Lib.hid hr2
        clear hB hr0 hr1 hr2
        have c0_0 := Sn.bk_c HR0.out 0
        have c0_1 := Sn.bk_c HR0.out 1
        have c1_0 := Sn.bk_c HR1.out 0
        have c1_1 := Sn.bk_c HR1.out 1
        simp only [List.getElem?_toArray, List.getElem?_cons_zero, List.getElem?_cons_succ] at c0_0 c0_1 c1_0 c1_1
        go_wp2_with fail
        clear c0_0 c0_1 c1_0 c1_1
        refine (HLX.out v).mono ?_
        rintro e v2 ⟨rfl, hb⟩
        have hr0 := Sn.bk_below HR0.out hb (Sn.bk_lt HR0.out)
        have hr1 := Sn.bk_below HR1.out hb (Sn.bk_lt HR1.out)
        have hr2 := Sn.bk_below HR2.out hb (Sn.bk_lt HR2.out)
        have hB := Sn.below_next HB.out hb HB.out.size
        clear HB HR0 HR1 HR2 hb
        have HB := Lib.hid hB
        have HR0 := Lib.hid hr0
        have HR1 := Lib.hid hr1
        have HR2 := Lib.hid hr2
        clear hB hr0 hr1 hr2
        clear v
        rename World => v
        have c0_0 := Sn.bk_c HR0.out 0
        have c0_1 := Sn.bk_c HR0.out 1
        have c1_0 := Sn.bk_c HR1.out 0
        have c1_1 := Sn.bk_c HR1.out 1
        simp only [List.getElem?_toArray, List.getElem?_cons_zero, List.getElem?_cons_succ] at c0_0 c0_1 c1_0 c1_1
        go_wp2_with fail
        clear c0_0 c0_1 c1_0 c1_1
        refine (HLY.out v).mono ?_
        rintro e v2 ⟨rfl, hb⟩
        have hr0 := Sn.bk_below HR0.out hb (Sn.bk_lt HR0.out)
        have hr1 := Sn.bk_below HR1.out hb (Sn.bk_lt HR1.out)
        have hr2 := Sn.bk_below HR2.out hb (Sn.bk_lt HR2.out)
        have hB := Sn.below_next HB.out hb HB.out.size
        clear HB HR0 HR1 HR2 hb
        have HB := Lib.hid hB
        have HR0 := Lib.hid hr0
        have HR1 := Lib.hid hr1
        have HR2 := Lib.hid hr2
        clear hB hr0 hr1 hr2
        clear v
        rename World => v
        have c0_0 := Sn.bk_c HR0.out 0
        have c0_1 := Sn.bk_c HR0.out 1
        have c1_0 := Sn.bk_c HR1.out 0
        have c1_1 := Sn.bk_c HR1.out 1
        simp only [List.getElem?_toArray, List.getElem?_cons_zero, List.getElem?_cons_succ] at c0_0 c0_1 c1_0 c1_1
        go_wp2_with fail
        clear c0_0 c0_1 c1_0 c1_1
        refine (HUX.out v).mono ?_
        rintro e v2 ⟨rfl, hb⟩
        have hr0 := Sn.bk_below HR0.out hb (Sn.bk_lt HR0.out)
        have hr1 := Sn.bk_below HR1.out hb (Sn.bk_lt HR1.out)
        have hr2 := Sn.bk_below HR2.out hb (Sn.bk_lt HR2.out)
        have hB := Sn.below_next HB.out hb HB.out.size
        clear HB HR0 HR1 HR2 hb
        have HB := Lib.hid hB
        have HR0 := Lib.hid hr0
        have HR1 := Lib.hid hr1
        have HR2 := Lib.hid hr2
        clear hB hr0 hr1 hr2
        clear v
        rename World => v
        have c0_0 := Sn.bk_c HR0.out 0
        have c0_1 := Sn.bk_c HR0.out 1
        have c1_0 := Sn.bk_c HR1.out 0
        have c1_1 := Sn.bk_c HR1.out 1
        simp only [List.getElem?_toArray, List.getElem?_cons_zero, List.getElem?_cons_succ] at c0_0 c0_1 c1_0 c1_1
        go_wp2_with fail
        clear c0_0 c0_1 c1_0 c1_1
        refine (HUX.out v).mono ?_
        rintro e v2 ⟨rfl, hb⟩
        have hr0 := Sn.bk_below HR0.out hb (Sn.bk_lt HR0.out)
        have hr1 := Sn.bk_below HR1.out hb (Sn.bk_lt HR1.out)
        have hr2 := Sn.bk_below HR2.out hb (Sn.bk_lt HR2.out)
        have hB := Sn.below_next HB.out hb HB.out.size
        clear HB HR0 HR1 HR2 hb
        have HB := Lib.hid hB
        have HR0 := Lib.hid hr0
        have HR1 := Lib.hid hr1
        have HR2 := Lib.hid hr2
        clear hB hr0 hr1 hr2
        clear v
        rename World => v
        have c0_0 := Sn.bk_c HR0.out 0
        have c0_1 := Sn.bk_c HR0.out 1
        have c1_0 := Sn.bk_c HR1.out 0
        have c1_1 := Sn.bk_c HR1.out 1
        simp only [List.getElem?_toArray, List.getElem?_cons_zero, List.getElem?_cons_succ] at c0_0 c0_1 c1_0 c1_1
        go_wp2_with fail
        clear c0_0 c0_1 c1_0 c1_1
        refine (HLX.out v).mono ?_
        rintro e v2 ⟨rfl, hb⟩
        have hr0 := Sn.bk_below HR0.out hb (Sn.bk_lt HR0.out)
        have hr1 := Sn.bk_below HR1.out hb (Sn.bk_lt HR1.out)
        have hr2 := Sn.bk_below HR2.out hb (Sn.bk_lt HR2.out)
        have hB := Sn.below_next HB.out hb HB.out.size
        clear HB HR0 HR1 HR2 hb
        have HB := Lib.hid hB
        have HR0 := Lib.hid hr0
        have HR1 := Lib.hid hr1
        have HR2 := Lib.hid hr2
        clear hB hr0 hr1 hr2
        clear v
        rename World => v
        have c0_0 := Sn.bk_c HR0.out 0
        have c0_1 := Sn.bk_c HR0.out 1
        have c1_0 := Sn.bk_c HR1.out 0
        have c1_1 := Sn.bk_c HR1.out 1
        simp only [List.getElem?_toArray, List.getElem?_cons_zero, List.getElem?_cons_succ] at c0_0 c0_1 c1_0 c1_1
        go_wp2_with fail
        clear c0_0 c0_1 c1_0 c1_1
        refine (HUY.out v).mono ?_
        rintro e v2 ⟨rfl, hb⟩
        have hr0 := Sn.bk_below HR0.out hb (Sn.bk_lt HR0.out)
        have hr1 := Sn.bk_below HR1.out hb (Sn.bk_lt HR1.out)
        have hr2 := Sn.bk_below HR2.out hb (Sn.bk_lt HR2.out)
        have hB := Sn.below_next HB.out hb HB.out.size
        clear HB HR0 HR1 HR2 hb
        have HB := Lib.hid hB
        have HR0 := Lib.hid hr0
        have HR1 := Lib.hid hr1
        have HR2 := Lib.hid hr2
        clear hB hr0 hr1 hr2
        clear v
        rename World => v
        have c0_0 := Sn.bk_c HR0.out 0
        have c0_1 := Sn.bk_c HR0.out 1
        have c1_0 := Sn.bk_c HR1.out 0
        have c1_1 := Sn.bk_c HR1.out 1
        simp only [List.getElem?_toArray, List.getElem?_cons_zero, List.getElem?_cons_succ] at c0_0 c0_1 c1_0 c1_1
        go_wp2_with fail
        clear c0_0 c0_1 c1_0 c1_1
        refine (point_any 0 v).mono ?_
        rintro e v2 ⟨rfl, hb⟩
        have hr2 := Sn.bk_below HR2.out hb (Sn.bk_lt HR2.out)
        have hB := Sn.below_next HB.out hb HB.out.size
        clear HB HR2 hb
        have HB := Lib.hid hB
        have HR2 := Lib.hid hr2
        clear hB hr2
        have H1C := Lib.hid (show (#[.int .u64 0, .int .u64 0] : Array Value).all (·.oneCell') = true from by simp [Value.oneCell'])
        go_wp2_with (with_reducible refine Sn.store_sp (.tmp 6) (.tmp 46) (w.heap.size + 1 + 1) #[.int .u64 0, .int .u64 0] #[.int .u64 0, .int .u64 0] HR2.out rfl rfl rfl rfl rfl rfl H1C.out ?_)
        refine Sn.ret_sp (w.heap.size + 1 + 1) _ (Sn.bk_row HR2.out _) rfl rfl rfl rfl ?_
        exact ⟨rfl, Sn.below_set HB.out (by omega) _⟩
      · rw [if_neg (by omega), if_neg (by omega), if_neg (by omega)]
        have HLX := Lib.hid (fun W => low_is hx (b := true) (by simp only [decide_eq_true_eq, decide_eq_false_iff_not]; omega) W)
        have HUX := Lib.hid (fun W => upp_is hx (b := false) (by simp only [decide_eq_true_eq, decide_eq_false_iff_not]; omega) W)
        have HLY := Lib.hid (fun W => low_is hy (b := false) (by simp only [decide_eq_true_eq, decide_eq_false_iff_not]; omega) W)
        have HUY := Lib.hid (fun W => upp_is hy (b := false) (by simp only [decide_eq_true_eq, decide_eq_false_iff_not]; omega) W)
        clear hx hy hx2 hy2 gx1 gy1 gy2
        go_enter Try.func64, Try.ntmps64
        go_upto_region 1 with (fail)
        have hB : Below w.heap.size w (((w.alloc (.cells #[.int .u64 x1, .int .u64 x2] 24)).alloc (.cells #[.int .u64 y1, .int .u64 y2] 24)).alloc (.cells #[.int .u64 0, .int .u64 0] 24)) := ((((Below.refl _ _).alloc (Nat.le_refl _) _).alloc (by simp) _).alloc (by simp; omega) _)
        have hr0 : Sn.Bk (((w.alloc (.cells #[.int .u64 x1, .int .u64 x2] 24)).alloc (.cells #[.int .u64 y1, .int .u64 y2] 24)).alloc (.cells #[.int .u64 0, .int .u64 0] 24)) (w.heap.size) 24 #[.int .u64 x1, .int .u64 x2] := Sn.bk_old (Sn.bk_old (Sn.bk_new _ _ _) _) _
        have hr1 : Sn.Bk (((w.alloc (.cells #[.int .u64 x1, .int .u64 x2] 24)).alloc (.cells #[.int .u64 y1, .int .u64 y2] 24)).alloc (.cells #[.int .u64 0, .int .u64 0] 24)) (w.heap.size + 1) 24 #[.int .u64 y1, .int .u64 y2] := Sn.bk_old (Sn.bk_at (by simp)) _
        have hr2 : Sn.Bk (((w.alloc (.cells #[.int .u64 x1, .int .u64 x2] 24)).alloc (.cells #[.int .u64 y1, .int .u64 y2] 24)).alloc (.cells #[.int .u64 0, .int .u64 0] 24)) (w.heap.size + 1 + 1) 24 #[.int .u64 0, .int .u64 0] := Sn.bk_at (by simp)
        generalize (((w.alloc (.cells #[.int .u64 x1, .int .u64 x2] 24)).alloc (.cells #[.int .u64 y1, .int .u64 y2] 24)).alloc (.cells #[.int .u64 0, .int .u64 0] 24)) = v at *
        have HB := Lib.hid hB
        have HR0 := Lib.hid hr0
        have HR1 := Lib.hid hr1
        have HR2 := Lib.hid hr2
        clear hB hr0 hr1 hr2
        have c0_0 := Sn.bk_c HR0.out 0
        have c0_1 := Sn.bk_c HR0.out 1
        have c1_0 := Sn.bk_c HR1.out 0
        have c1_1 := Sn.bk_c HR1.out 1
        simp only [List.getElem?_toArray, List.getElem?_cons_zero, List.getElem?_cons_succ] at c0_0 c0_1 c1_0 c1_1
        go_wp2_with fail
        clear c0_0 c0_1 c1_0 c1_1
        refine (HLX.out v).mono ?_
        rintro e v2 ⟨rfl, hb⟩
        have hr0 := Sn.bk_below HR0.out hb (Sn.bk_lt HR0.out)
        have hr1 := Sn.bk_below HR1.out hb (Sn.bk_lt HR1.out)
        have hr2 := Sn.bk_below HR2.out hb (Sn.bk_lt HR2.out)
        have hB := Sn.below_next HB.out hb HB.out.size
        clear HB HR0 HR1 HR2 hb
        have HB := Lib.hid hB
        have HR0 := Lib.hid hr0
        have HR1 := Lib.hid hr1
        have HR2 := Lib.hid hr2
        clear hB hr0 hr1 hr2
        clear v
        rename World => v
        have c0_0 := Sn.bk_c HR0.out 0
        have c0_1 := Sn.bk_c HR0.out 1
        have c1_0 := Sn.bk_c HR1.out 0
        have c1_1 := Sn.bk_c HR1.out 1
        simp only [List.getElem?_toArray, List.getElem?_cons_zero, List.getElem?_cons_succ] at c0_0 c0_1 c1_0 c1_1
        go_wp2_with fail
        clear c0_0 c0_1 c1_0 c1_1
        refine (HLY.out v).mono ?_
        rintro e v2 ⟨rfl, hb⟩
        have hr0 := Sn.bk_below HR0.out hb (Sn.bk_lt HR0.out)
        have hr1 := Sn.bk_below HR1.out hb (Sn.bk_lt HR1.out)
        have hr2 := Sn.bk_below HR2.out hb (Sn.bk_lt HR2.out)
        have hB := Sn.below_next HB.out hb HB.out.size
        clear HB HR0 HR1 HR2 hb
        have HB := Lib.hid hB
        have HR0 := Lib.hid hr0
        have HR1 := Lib.hid hr1
        have HR2 := Lib.hid hr2
        clear hB hr0 hr1 hr2
        clear v
        rename World => v
        have c0_0 := Sn.bk_c HR0.out 0
        have c0_1 := Sn.bk_c HR0.out 1
        have c1_0 := Sn.bk_c HR1.out 0
        have c1_1 := Sn.bk_c HR1.out 1
        simp only [List.getElem?_toArray, List.getElem?_cons_zero, List.getElem?_cons_succ] at c0_0 c0_1 c1_0 c1_1
        go_wp2_with fail
        clear c0_0 c0_1 c1_0 c1_1
        refine (HUX.out v).mono ?_
        rintro e v2 ⟨rfl, hb⟩
        have hr0 := Sn.bk_below HR0.out hb (Sn.bk_lt HR0.out)
        have hr1 := Sn.bk_below HR1.out hb (Sn.bk_lt HR1.out)
        have hr2 := Sn.bk_below HR2.out hb (Sn.bk_lt HR2.out)
        have hB := Sn.below_next HB.out hb HB.out.size
        clear HB HR0 HR1 HR2 hb
        have HB := Lib.hid hB
        have HR0 := Lib.hid hr0
        have HR1 := Lib.hid hr1
        have HR2 := Lib.hid hr2
        clear hB hr0 hr1 hr2
        clear v
        rename World => v
        have c0_0 := Sn.bk_c HR0.out 0
        have c0_1 := Sn.bk_c HR0.out 1
        have c1_0 := Sn.bk_c HR1.out 0
        have c1_1 := Sn.bk_c HR1.out 1
        simp only [List.getElem?_toArray, List.getElem?_cons_zero, List.getElem?_cons_succ] at c0_0 c0_1 c1_0 c1_1
        go_wp2_with fail
        clear c0_0 c0_1 c1_0 c1_1
        refine (HUX.out v).mono ?_
        rintro e v2 ⟨rfl, hb⟩
        have hr0 := Sn.bk_below HR0.out hb (Sn.bk_lt HR0.out)
        have hr1 := Sn.bk_below HR1.out hb (Sn.bk_lt HR1.out)
        have hr2 := Sn.bk_below HR2.out hb (Sn.bk_lt HR2.out)
        have hB := Sn.below_next HB.out hb HB.out.size
        clear HB HR0 HR1 HR2 hb
        have HB := Lib.hid hB
        have HR0 := Lib.hid hr0
        have HR1 := Lib.hid hr1
        have HR2 := Lib.hid hr2
        clear hB hr0 hr1 hr2
        clear v
        rename World => v
        have c0_0 := Sn.bk_c HR0.out 0
        have c0_1 := Sn.bk_c HR0.out 1
        have c1_0 := Sn.bk_c HR1.out 0
        have c1_1 := Sn.bk_c HR1.out 1
        simp only [List.getElem?_toArray, List.getElem?_cons_zero, List.getElem?_cons_succ] at c0_0 c0_1 c1_0 c1_1
        go_wp2_with fail
        clear c0_0 c0_1 c1_0 c1_1
        refine (HLX.out v).mono ?_
        rintro e v2 ⟨rfl, hb⟩
        have hr0 := Sn.bk_below HR0.out hb (Sn.bk_lt HR0.out)
        have hr1 := Sn.bk_below HR1.out hb (Sn.bk_lt HR1.out)
        have hr2 := Sn.bk_below HR2.out hb (Sn.bk_lt HR2.out)
        have hB := Sn.below_next HB.out hb HB.out.size
        clear HB HR0 HR1 HR2 hb
        have HB := Lib.hid hB
        have HR0 := Lib.hid hr0
        have HR1 := Lib.hid hr1
        have HR2 := Lib.hid hr2
        clear hB hr0 hr1 hr2
        clear v
        rename World => v
        have c0_0 := Sn.bk_c HR0.out 0
        have c0_1 := Sn.bk_c HR0.out 1
        have c1_0 := Sn.bk_c HR1.out 0
        have c1_1 := Sn.bk_c HR1.out 1
        simp only [List.getElem?_toArray, List.getElem?_cons_zero, List.getElem?_cons_succ] at c0_0 c0_1 c1_0 c1_1
        go_wp2_with fail
        clear c0_0 c0_1 c1_0 c1_1
        refine (HUY.out v).mono ?_
        rintro e v2 ⟨rfl, hb⟩
        have hr0 := Sn.bk_below HR0.out hb (Sn.bk_lt HR0.out)
        have hr1 := Sn.bk_below HR1.out hb (Sn.bk_lt HR1.out)
        have hr2 := Sn.bk_below HR2.out hb (Sn.bk_lt HR2.out)
        have hB := Sn.below_next HB.out hb HB.out.size
        clear HB HR0 HR1 HR2 hb
        have HB := Lib.hid hB
        have HR0 := Lib.hid hr0
        have HR1 := Lib.hid hr1
        have HR2 := Lib.hid hr2
        clear hB hr0 hr1 hr2
        clear v
        rename World => v
        have c0_0 := Sn.bk_c HR0.out 0
        have c0_1 := Sn.bk_c HR0.out 1
        have c1_0 := Sn.bk_c HR1.out 0
        have c1_1 := Sn.bk_c HR1.out 1
        simp only [List.getElem?_toArray, List.getElem?_cons_zero, List.getElem?_cons_succ] at c0_0 c0_1 c1_0 c1_1
        go_wp2_with fail
        clear c0_0 c0_1 c1_0 c1_1
        refine (either_any v).mono ?_
        rintro e v2 ⟨rfl, hb⟩
        have hr2 := Sn.bk_below HR2.out hb (Sn.bk_lt HR2.out)
        have hB := Sn.below_next HB.out hb HB.out.size
        clear HB HR2 hb
        have HB := Lib.hid hB
        have HR2 := Lib.hid hr2
        clear hB hr2
        have H1C := Lib.hid (show (#[.int .u64 0, .int .u64 1] : Array Value).all (·.oneCell') = true from by simp [Value.oneCell'])
        go_wp2_with (with_reducible refine Sn.store_sp (.tmp 6) (.tmp 47) (w.heap.size + 1 + 1) #[.int .u64 0, .int .u64 0] #[.int .u64 0, .int .u64 1] HR2.out rfl rfl rfl rfl rfl rfl H1C.out ?_)
        refine Sn.ret_sp (w.heap.size + 1 + 1) _ (Sn.bk_row HR2.out _) rfl rfl rfl rfl ?_
        exact ⟨rfl, Sn.below_set HB.out (by omega) _⟩
  · by_cases gx2 : Wd.hib a ≤ x1
    · by_cases gy1 : y2 < Wd.hib a
      · rw [if_neg (by omega), if_pos (by omega)]
        have HLX := Lib.hid (fun W => low_is hx (b := false) (by simp only [decide_eq_true_eq, decide_eq_false_iff_not]; omega) W)
        have HUX := Lib.hid (fun W => upp_is hx (b := true) (by simp only [decide_eq_true_eq, decide_eq_false_iff_not]; omega) W)
        have HLY := Lib.hid (fun W => low_is hy (b := true) (by simp only [decide_eq_true_eq, decide_eq_false_iff_not]; omega) W)
        have HUY := Lib.hid (fun W => upp_is hy (b := false) (by simp only [decide_eq_true_eq, decide_eq_false_iff_not]; omega) W)
        clear hx hy hx2 hy2 gx1 gy1 gx2
        go_enter Try.func64, Try.ntmps64
        go_upto_region 1 with (fail)
        have hB : Below w.heap.size w (((w.alloc (.cells #[.int .u64 x1, .int .u64 x2] 24)).alloc (.cells #[.int .u64 y1, .int .u64 y2] 24)).alloc (.cells #[.int .u64 0, .int .u64 0] 24)) := ((((Below.refl _ _).alloc (Nat.le_refl _) _).alloc (by simp) _).alloc (by simp; omega) _)
        have hr0 : Sn.Bk (((w.alloc (.cells #[.int .u64 x1, .int .u64 x2] 24)).alloc (.cells #[.int .u64 y1, .int .u64 y2] 24)).alloc (.cells #[.int .u64 0, .int .u64 0] 24)) (w.heap.size) 24 #[.int .u64 x1, .int .u64 x2] := Sn.bk_old (Sn.bk_old (Sn.bk_new _ _ _) _) _
        have hr1 : Sn.Bk (((w.alloc (.cells #[.int .u64 x1, .int .u64 x2] 24)).alloc (.cells #[.int .u64 y1, .int .u64 y2] 24)).alloc (.cells #[.int .u64 0, .int .u64 0] 24)) (w.heap.size + 1) 24 #[.int .u64 y1, .int .u64 y2] := Sn.bk_old (Sn.bk_at (by simp)) _
        have hr2 : Sn.Bk (((w.alloc (.cells #[.int .u64 x1, .int .u64 x2] 24)).alloc (.cells #[.int .u64 y1, .int .u64 y2] 24)).alloc (.cells #[.int .u64 0, .int .u64 0] 24)) (w.heap.size + 1 + 1) 24 #[.int .u64 0, .int .u64 0] := Sn.bk_at (by simp)
        generalize (((w.alloc (.cells #[.int .u64 x1, .int .u64 x2] 24)).alloc (.cells #[.int .u64 y1, .int .u64 y2] 24)).alloc (.cells #[.int .u64 0, .int .u64 0] 24)) = v at *
        have HB := Lib.hid hB
        have HR0 := Lib.hid hr0
        have HR1 := Lib.hid hr1
        have HR2 := Lib.hid hr2
        clear hB hr0 hr1 hr2
        have c0_0 := Sn.bk_c HR0.out 0
        have c0_1 := Sn.bk_c HR0.out 1
        have c1_0 := Sn.bk_c HR1.out 0
        have c1_1 := Sn.bk_c HR1.out 1
        simp only [List.getElem?_toArray, List.getElem?_cons_zero, List.getElem?_cons_succ] at c0_0 c0_1 c1_0 c1_1
        go_wp2_with fail
        clear c0_0 c0_1 c1_0 c1_1
        refine (HLX.out v).mono ?_
        rintro e v2 ⟨rfl, hb⟩
        have hr0 := Sn.bk_below HR0.out hb (Sn.bk_lt HR0.out)
        have hr1 := Sn.bk_below HR1.out hb (Sn.bk_lt HR1.out)
        have hr2 := Sn.bk_below HR2.out hb (Sn.bk_lt HR2.out)
        have hB := Sn.below_next HB.out hb HB.out.size
        clear HB HR0 HR1 HR2 hb
        have HB := Lib.hid hB
        have HR0 := Lib.hid hr0
        have HR1 := Lib.hid hr1
        have HR2 := Lib.hid hr2
        clear hB hr0 hr1 hr2
        clear v
        rename World => v
        have c0_0 := Sn.bk_c HR0.out 0
        have c0_1 := Sn.bk_c HR0.out 1
        have c1_0 := Sn.bk_c HR1.out 0
        have c1_1 := Sn.bk_c HR1.out 1
        simp only [List.getElem?_toArray, List.getElem?_cons_zero, List.getElem?_cons_succ] at c0_0 c0_1 c1_0 c1_1
        go_wp2_with fail
        clear c0_0 c0_1 c1_0 c1_1
        refine (HUX.out v).mono ?_
        rintro e v2 ⟨rfl, hb⟩
        have hr0 := Sn.bk_below HR0.out hb (Sn.bk_lt HR0.out)
        have hr1 := Sn.bk_below HR1.out hb (Sn.bk_lt HR1.out)
        have hr2 := Sn.bk_below HR2.out hb (Sn.bk_lt HR2.out)
        have hB := Sn.below_next HB.out hb HB.out.size
        clear HB HR0 HR1 HR2 hb
        have HB := Lib.hid hB
        have HR0 := Lib.hid hr0
        have HR1 := Lib.hid hr1
        have HR2 := Lib.hid hr2
        clear hB hr0 hr1 hr2
        clear v
        rename World => v
        have c0_0 := Sn.bk_c HR0.out 0
        have c0_1 := Sn.bk_c HR0.out 1
        have c1_0 := Sn.bk_c HR1.out 0
        have c1_1 := Sn.bk_c HR1.out 1
        simp only [List.getElem?_toArray, List.getElem?_cons_zero, List.getElem?_cons_succ] at c0_0 c0_1 c1_0 c1_1
        go_wp2_with fail
        clear c0_0 c0_1 c1_0 c1_1
        refine (HUY.out v).mono ?_
        rintro e v2 ⟨rfl, hb⟩
        have hr0 := Sn.bk_below HR0.out hb (Sn.bk_lt HR0.out)
        have hr1 := Sn.bk_below HR1.out hb (Sn.bk_lt HR1.out)
        have hr2 := Sn.bk_below HR2.out hb (Sn.bk_lt HR2.out)
        have hB := Sn.below_next HB.out hb HB.out.size
        clear HB HR0 HR1 HR2 hb
        have HB := Lib.hid hB
        have HR0 := Lib.hid hr0
        have HR1 := Lib.hid hr1
        have HR2 := Lib.hid hr2
        clear hB hr0 hr1 hr2
        clear v
        rename World => v
        have c0_0 := Sn.bk_c HR0.out 0
        have c0_1 := Sn.bk_c HR0.out 1
        have c1_0 := Sn.bk_c HR1.out 0
        have c1_1 := Sn.bk_c HR1.out 1
        simp only [List.getElem?_toArray, List.getElem?_cons_zero, List.getElem?_cons_succ] at c0_0 c0_1 c1_0 c1_1
        go_wp2_with fail
        clear c0_0 c0_1 c1_0 c1_1
        refine (HUX.out v).mono ?_
        rintro e v2 ⟨rfl, hb⟩
        have hr0 := Sn.bk_below HR0.out hb (Sn.bk_lt HR0.out)
        have hr1 := Sn.bk_below HR1.out hb (Sn.bk_lt HR1.out)
        have hr2 := Sn.bk_below HR2.out hb (Sn.bk_lt HR2.out)
        have hB := Sn.below_next HB.out hb HB.out.size
        clear HB HR0 HR1 HR2 hb
        have HB := Lib.hid hB
        have HR0 := Lib.hid hr0
        have HR1 := Lib.hid hr1
        have HR2 := Lib.hid hr2
        clear hB hr0 hr1 hr2
        clear v
        rename World => v
        have c0_0 := Sn.bk_c HR0.out 0
        have c0_1 := Sn.bk_c HR0.out 1
        have c1_0 := Sn.bk_c HR1.out 0
        have c1_1 := Sn.bk_c HR1.out 1
        simp only [List.getElem?_toArray, List.getElem?_cons_zero, List.getElem?_cons_succ] at c0_0 c0_1 c1_0 c1_1
        go_wp2_with fail
        clear c0_0 c0_1 c1_0 c1_1
        refine (HLY.out v).mono ?_
        rintro e v2 ⟨rfl, hb⟩
        have hr0 := Sn.bk_below HR0.out hb (Sn.bk_lt HR0.out)
        have hr1 := Sn.bk_below HR1.out hb (Sn.bk_lt HR1.out)
        have hr2 := Sn.bk_below HR2.out hb (Sn.bk_lt HR2.out)
        have hB := Sn.below_next HB.out hb HB.out.size
        clear HB HR0 HR1 HR2 hb
        have HB := Lib.hid hB
        have HR0 := Lib.hid hr0
        have HR1 := Lib.hid hr1
        have HR2 := Lib.hid hr2
        clear hB hr0 hr1 hr2
        clear v
        rename World => v
        have c0_0 := Sn.bk_c HR0.out 0
        have c0_1 := Sn.bk_c HR0.out 1
        have c1_0 := Sn.bk_c HR1.out 0
        have c1_1 := Sn.bk_c HR1.out 1
        simp only [List.getElem?_toArray, List.getElem?_cons_zero, List.getElem?_cons_succ] at c0_0 c0_1 c1_0 c1_1
        go_wp2_with fail
        clear c0_0 c0_1 c1_0 c1_1
        refine (point_any 1 v).mono ?_
        rintro e v2 ⟨rfl, hb⟩
        have hr2 := Sn.bk_below HR2.out hb (Sn.bk_lt HR2.out)
        have hB := Sn.below_next HB.out hb HB.out.size
        clear HB HR2 hb
        have HB := Lib.hid hB
        have HR2 := Lib.hid hr2
        clear hB hr2
        have H1C := Lib.hid (show (#[.int .u64 1, .int .u64 1] : Array Value).all (·.oneCell') = true from by simp [Value.oneCell'])
        go_wp2_with (with_reducible refine Sn.store_sp (.tmp 6) (.tmp 36) (w.heap.size + 1 + 1) #[.int .u64 0, .int .u64 0] #[.int .u64 1, .int .u64 1] HR2.out rfl rfl rfl rfl rfl rfl H1C.out ?_)
        refine Sn.ret_sp (w.heap.size + 1 + 1) _ (Sn.bk_row HR2.out _) rfl rfl rfl rfl ?_
        exact ⟨rfl, Sn.below_set HB.out (by omega) _⟩
      · by_cases gy2 : Wd.hib a ≤ y1
        · rw [if_pos (by omega)]
          have HLX := Lib.hid (fun W => low_is hx (b := false) (by simp only [decide_eq_true_eq, decide_eq_false_iff_not]; omega) W)
          have HUX := Lib.hid (fun W => upp_is hx (b := true) (by simp only [decide_eq_true_eq, decide_eq_false_iff_not]; omega) W)
          have HLY := Lib.hid (fun W => low_is hy (b := false) (by simp only [decide_eq_true_eq, decide_eq_false_iff_not]; omega) W)
          have HUY := Lib.hid (fun W => upp_is hy (b := true) (by simp only [decide_eq_true_eq, decide_eq_false_iff_not]; omega) W)
          clear hx hy hx2 hy2 gx1 gy1 gx2 gy2
          go_enter Try.func64, Try.ntmps64
          go_upto_region 1 with (fail)
          have hB : Below w.heap.size w (((w.alloc (.cells #[.int .u64 x1, .int .u64 x2] 24)).alloc (.cells #[.int .u64 y1, .int .u64 y2] 24)).alloc (.cells #[.int .u64 0, .int .u64 0] 24)) := ((((Below.refl _ _).alloc (Nat.le_refl _) _).alloc (by simp) _).alloc (by simp; omega) _)
          have hr0 : Sn.Bk (((w.alloc (.cells #[.int .u64 x1, .int .u64 x2] 24)).alloc (.cells #[.int .u64 y1, .int .u64 y2] 24)).alloc (.cells #[.int .u64 0, .int .u64 0] 24)) (w.heap.size) 24 #[.int .u64 x1, .int .u64 x2] := Sn.bk_old (Sn.bk_old (Sn.bk_new _ _ _) _) _
          have hr1 : Sn.Bk (((w.alloc (.cells #[.int .u64 x1, .int .u64 x2] 24)).alloc (.cells #[.int .u64 y1, .int .u64 y2] 24)).alloc (.cells #[.int .u64 0, .int .u64 0] 24)) (w.heap.size + 1) 24 #[.int .u64 y1, .int .u64 y2] := Sn.bk_old (Sn.bk_at (by simp)) _
          have hr2 : Sn.Bk (((w.alloc (.cells #[.int .u64 x1, .int .u64 x2] 24)).alloc (.cells #[.int .u64 y1, .int .u64 y2] 24)).alloc (.cells #[.int .u64 0, .int .u64 0] 24)) (w.heap.size + 1 + 1) 24 #[.int .u64 0, .int .u64 0] := Sn.bk_at (by simp)
          generalize (((w.alloc (.cells #[.int .u64 x1, .int .u64 x2] 24)).alloc (.cells #[.int .u64 y1, .int .u64 y2] 24)).alloc (.cells #[.int .u64 0, .int .u64 0] 24)) = v at *
          have HB := Lib.hid hB
          have HR0 := Lib.hid hr0
          have HR1 := Lib.hid hr1
          have HR2 := Lib.hid hr2
          clear hB hr0 hr1 hr2
          have c0_0 := Sn.bk_c HR0.out 0
          have c0_1 := Sn.bk_c HR0.out 1
          have c1_0 := Sn.bk_c HR1.out 0
          have c1_1 := Sn.bk_c HR1.out 1
          simp only [List.getElem?_toArray, List.getElem?_cons_zero, List.getElem?_cons_succ] at c0_0 c0_1 c1_0 c1_1
          go_wp2_with fail
          clear c0_0 c0_1 c1_0 c1_1
          refine (HLX.out v).mono ?_
          rintro e v2 ⟨rfl, hb⟩
          have hr0 := Sn.bk_below HR0.out hb (Sn.bk_lt HR0.out)
          have hr1 := Sn.bk_below HR1.out hb (Sn.bk_lt HR1.out)
          have hr2 := Sn.bk_below HR2.out hb (Sn.bk_lt HR2.out)
          have hB := Sn.below_next HB.out hb HB.out.size
          clear HB HR0 HR1 HR2 hb
          have HB := Lib.hid hB
          have HR0 := Lib.hid hr0
          have HR1 := Lib.hid hr1
          have HR2 := Lib.hid hr2
          clear hB hr0 hr1 hr2
          clear v
          rename World => v
          have c0_0 := Sn.bk_c HR0.out 0
          have c0_1 := Sn.bk_c HR0.out 1
          have c1_0 := Sn.bk_c HR1.out 0
          have c1_1 := Sn.bk_c HR1.out 1
          simp only [List.getElem?_toArray, List.getElem?_cons_zero, List.getElem?_cons_succ] at c0_0 c0_1 c1_0 c1_1
          go_wp2_with fail
          clear c0_0 c0_1 c1_0 c1_1
          refine (HUX.out v).mono ?_
          rintro e v2 ⟨rfl, hb⟩
          have hr0 := Sn.bk_below HR0.out hb (Sn.bk_lt HR0.out)
          have hr1 := Sn.bk_below HR1.out hb (Sn.bk_lt HR1.out)
          have hr2 := Sn.bk_below HR2.out hb (Sn.bk_lt HR2.out)
          have hB := Sn.below_next HB.out hb HB.out.size
          clear HB HR0 HR1 HR2 hb
          have HB := Lib.hid hB
          have HR0 := Lib.hid hr0
          have HR1 := Lib.hid hr1
          have HR2 := Lib.hid hr2
          clear hB hr0 hr1 hr2
          clear v
          rename World => v
          have c0_0 := Sn.bk_c HR0.out 0
          have c0_1 := Sn.bk_c HR0.out 1
          have c1_0 := Sn.bk_c HR1.out 0
          have c1_1 := Sn.bk_c HR1.out 1
          simp only [List.getElem?_toArray, List.getElem?_cons_zero, List.getElem?_cons_succ] at c0_0 c0_1 c1_0 c1_1
          go_wp2_with fail
          clear c0_0 c0_1 c1_0 c1_1
          refine (HUY.out v).mono ?_
          rintro e v2 ⟨rfl, hb⟩
          have hr0 := Sn.bk_below HR0.out hb (Sn.bk_lt HR0.out)
          have hr1 := Sn.bk_below HR1.out hb (Sn.bk_lt HR1.out)
          have hr2 := Sn.bk_below HR2.out hb (Sn.bk_lt HR2.out)
          have hB := Sn.below_next HB.out hb HB.out.size
          clear HB HR0 HR1 HR2 hb
          have HB := Lib.hid hB
          have HR0 := Lib.hid hr0
          have HR1 := Lib.hid hr1
          have HR2 := Lib.hid hr2
          clear hB hr0 hr1 hr2
          clear v
          rename World => v
          have c0_0 := Sn.bk_c HR0.out 0
          have c0_1 := Sn.bk_c HR0.out 1
          have c1_0 := Sn.bk_c HR1.out 0
          have c1_1 := Sn.bk_c HR1.out 1
          simp only [List.getElem?_toArray, List.getElem?_cons_zero, List.getElem?_cons_succ] at c0_0 c0_1 c1_0 c1_1
          go_wp2_with fail
          clear c0_0 c0_1 c1_0 c1_1
          refine (HLS.out v).mono ?_
          rintro e v2 ⟨rfl, hb⟩
          have hr2 := Sn.bk_below HR2.out hb (Sn.bk_lt HR2.out)
          have hB := Sn.below_next HB.out hb HB.out.size
          clear HB HR2 hb
          have HB := Lib.hid hB
          have HR2 := Lib.hid hr2
          clear hB hr2
          have H1C := Lib.hid (show (#[.int .u64 l1, .int .u64 l2] : Array Value).all (·.oneCell') = true from by simp [Value.oneCell'])
          go_wp2_with (with_reducible refine Sn.store_sp (.tmp 6) (.tmp 26) (w.heap.size + 1 + 1) #[.int .u64 0, .int .u64 0] #[.int .u64 l1, .int .u64 l2] HR2.out rfl rfl rfl rfl rfl rfl H1C.out ?_)
          refine Sn.ret_sp (w.heap.size + 1 + 1) _ (Sn.bk_row HR2.out _) rfl rfl rfl rfl ?_
          exact ⟨rfl, Sn.below_set HB.out (by omega) _⟩
        · rw [if_neg (by omega), if_neg (by omega), if_neg (by omega)]
          have HLX := Lib.hid (fun W => low_is hx (b := false) (by simp only [decide_eq_true_eq, decide_eq_false_iff_not]; omega) W)
          have HUX := Lib.hid (fun W => upp_is hx (b := true) (by simp only [decide_eq_true_eq, decide_eq_false_iff_not]; omega) W)
          have HLY := Lib.hid (fun W => low_is hy (b := false) (by simp only [decide_eq_true_eq, decide_eq_false_iff_not]; omega) W)
          have HUY := Lib.hid (fun W => upp_is hy (b := false) (by simp only [decide_eq_true_eq, decide_eq_false_iff_not]; omega) W)
          clear hx hy hx2 hy2 gx1 gy1 gx2 gy2
          go_enter Try.func64, Try.ntmps64
          go_upto_region 1 with (fail)
          have hB : Below w.heap.size w (((w.alloc (.cells #[.int .u64 x1, .int .u64 x2] 24)).alloc (.cells #[.int .u64 y1, .int .u64 y2] 24)).alloc (.cells #[.int .u64 0, .int .u64 0] 24)) := ((((Below.refl _ _).alloc (Nat.le_refl _) _).alloc (by simp) _).alloc (by simp; omega) _)
          have hr0 : Sn.Bk (((w.alloc (.cells #[.int .u64 x1, .int .u64 x2] 24)).alloc (.cells #[.int .u64 y1, .int .u64 y2] 24)).alloc (.cells #[.int .u64 0, .int .u64 0] 24)) (w.heap.size) 24 #[.int .u64 x1, .int .u64 x2] := Sn.bk_old (Sn.bk_old (Sn.bk_new _ _ _) _) _
          have hr1 : Sn.Bk (((w.alloc (.cells #[.int .u64 x1, .int .u64 x2] 24)).alloc (.cells #[.int .u64 y1, .int .u64 y2] 24)).alloc (.cells #[.int .u64 0, .int .u64 0] 24)) (w.heap.size + 1) 24 #[.int .u64 y1, .int .u64 y2] := Sn.bk_old (Sn.bk_at (by simp)) _
          have hr2 : Sn.Bk (((w.alloc (.cells #[.int .u64 x1, .int .u64 x2] 24)).alloc (.cells #[.int .u64 y1, .int .u64 y2] 24)).alloc (.cells #[.int .u64 0, .int .u64 0] 24)) (w.heap.size + 1 + 1) 24 #[.int .u64 0, .int .u64 0] := Sn.bk_at (by simp)
          generalize (((w.alloc (.cells #[.int .u64 x1, .int .u64 x2] 24)).alloc (.cells #[.int .u64 y1, .int .u64 y2] 24)).alloc (.cells #[.int .u64 0, .int .u64 0] 24)) = v at *
          have HB := Lib.hid hB
          have HR0 := Lib.hid hr0
          have HR1 := Lib.hid hr1
          have HR2 := Lib.hid hr2
          clear hB hr0 hr1 hr2
          have c0_0 := Sn.bk_c HR0.out 0
          have c0_1 := Sn.bk_c HR0.out 1
          have c1_0 := Sn.bk_c HR1.out 0
          have c1_1 := Sn.bk_c HR1.out 1
          simp only [List.getElem?_toArray, List.getElem?_cons_zero, List.getElem?_cons_succ] at c0_0 c0_1 c1_0 c1_1
          go_wp2_with fail
          clear c0_0 c0_1 c1_0 c1_1
          refine (HLX.out v).mono ?_
          rintro e v2 ⟨rfl, hb⟩
          have hr0 := Sn.bk_below HR0.out hb (Sn.bk_lt HR0.out)
          have hr1 := Sn.bk_below HR1.out hb (Sn.bk_lt HR1.out)
          have hr2 := Sn.bk_below HR2.out hb (Sn.bk_lt HR2.out)
          have hB := Sn.below_next HB.out hb HB.out.size
          clear HB HR0 HR1 HR2 hb
          have HB := Lib.hid hB
          have HR0 := Lib.hid hr0
          have HR1 := Lib.hid hr1
          have HR2 := Lib.hid hr2
          clear hB hr0 hr1 hr2
          clear v
          rename World => v
          have c0_0 := Sn.bk_c HR0.out 0
          have c0_1 := Sn.bk_c HR0.out 1
          have c1_0 := Sn.bk_c HR1.out 0
          have c1_1 := Sn.bk_c HR1.out 1
          simp only [List.getElem?_toArray, List.getElem?_cons_zero, List.getElem?_cons_succ] at c0_0 c0_1 c1_0 c1_1
          go_wp2_with fail
          clear c0_0 c0_1 c1_0 c1_1
          refine (HUX.out v).mono ?_
          rintro e v2 ⟨rfl, hb⟩
          have hr0 := Sn.bk_below HR0.out hb (Sn.bk_lt HR0.out)
          have hr1 := Sn.bk_below HR1.out hb (Sn.bk_lt HR1.out)
          have hr2 := Sn.bk_below HR2.out hb (Sn.bk_lt HR2.out)
          have hB := Sn.below_next HB.out hb HB.out.size
          clear HB HR0 HR1 HR2 hb
          have HB := Lib.hid hB
          have HR0 := Lib.hid hr0
          have HR1 := Lib.hid hr1
          have HR2 := Lib.hid hr2
          clear hB hr0 hr1 hr2
          clear v
          rename World => v
          have c0_0 := Sn.bk_c HR0.out 0
          have c0_1 := Sn.bk_c HR0.out 1
          have c1_0 := Sn.bk_c HR1.out 0
          have c1_1 := Sn.bk_c HR1.out 1
          simp only [List.getElem?_toArray, List.getElem?_cons_zero, List.getElem?_cons_succ] at c0_0 c0_1 c1_0 c1_1
          go_wp2_with fail
          clear c0_0 c0_1 c1_0 c1_1
          refine (HUY.out v).mono ?_
          rintro e v2 ⟨rfl, hb⟩
          have hr0 := Sn.bk_below HR0.out hb (Sn.bk_lt HR0.out)
          have hr1 := Sn.bk_below HR1.out hb (Sn.bk_lt HR1.out)
          have hr2 := Sn.bk_below HR2.out hb (Sn.bk_lt HR2.out)
          have hB := Sn.below_next HB.out hb HB.out.size
          clear HB HR0 HR1 HR2 hb
          have HB := Lib.hid hB
          have HR0 := Lib.hid hr0
          have HR1 := Lib.hid hr1
          have HR2 := Lib.hid hr2
          clear hB hr0 hr1 hr2
          clear v
          rename World => v
          have c0_0 := Sn.bk_c HR0.out 0
          have c0_1 := Sn.bk_c HR0.out 1
          have c1_0 := Sn.bk_c HR1.out 0
          have c1_1 := Sn.bk_c HR1.out 1
          simp only [List.getElem?_toArray, List.getElem?_cons_zero, List.getElem?_cons_succ] at c0_0 c0_1 c1_0 c1_1
          go_wp2_with fail
          clear c0_0 c0_1 c1_0 c1_1
          refine (HUX.out v).mono ?_
          rintro e v2 ⟨rfl, hb⟩
          have hr0 := Sn.bk_below HR0.out hb (Sn.bk_lt HR0.out)
          have hr1 := Sn.bk_below HR1.out hb (Sn.bk_lt HR1.out)
          have hr2 := Sn.bk_below HR2.out hb (Sn.bk_lt HR2.out)
          have hB := Sn.below_next HB.out hb HB.out.size
          clear HB HR0 HR1 HR2 hb
          have HB := Lib.hid hB
          have HR0 := Lib.hid hr0
          have HR1 := Lib.hid hr1
          have HR2 := Lib.hid hr2
          clear hB hr0 hr1 hr2
          clear v
          rename World => v
          have c0_0 := Sn.bk_c HR0.out 0
          have c0_1 := Sn.bk_c HR0.out 1
          have c1_0 := Sn.bk_c HR1.out 0
          have c1_1 := Sn.bk_c HR1.out 1
          simp only [List.getElem?_toArray, List.getElem?_cons_zero, List.getElem?_cons_succ] at c0_0 c0_1 c1_0 c1_1
          go_wp2_with fail
          clear c0_0 c0_1 c1_0 c1_1
          refine (HLY.out v).mono ?_
          rintro e v2 ⟨rfl, hb⟩
          have hr0 := Sn.bk_below HR0.out hb (Sn.bk_lt HR0.out)
          have hr1 := Sn.bk_below HR1.out hb (Sn.bk_lt HR1.out)
          have hr2 := Sn.bk_below HR2.out hb (Sn.bk_lt HR2.out)
          have hB := Sn.below_next HB.out hb HB.out.size
          clear HB HR0 HR1 HR2 hb
          have HB := Lib.hid hB
          have HR0 := Lib.hid hr0
          have HR1 := Lib.hid hr1
          have HR2 := Lib.hid hr2
          clear hB hr0 hr1 hr2
          clear v
          rename World => v
          have c0_0 := Sn.bk_c HR0.out 0
          have c0_1 := Sn.bk_c HR0.out 1
          have c1_0 := Sn.bk_c HR1.out 0
          have c1_1 := Sn.bk_c HR1.out 1
          simp only [List.getElem?_toArray, List.getElem?_cons_zero, List.getElem?_cons_succ] at c0_0 c0_1 c1_0 c1_1
          go_wp2_with fail
          clear c0_0 c0_1 c1_0 c1_1
          refine (HLX.out v).mono ?_
          rintro e v2 ⟨rfl, hb⟩
          have hr0 := Sn.bk_below HR0.out hb (Sn.bk_lt HR0.out)
          have hr1 := Sn.bk_below HR1.out hb (Sn.bk_lt HR1.out)
          have hr2 := Sn.bk_below HR2.out hb (Sn.bk_lt HR2.out)
          have hB := Sn.below_next HB.out hb HB.out.size
          clear HB HR0 HR1 HR2 hb
          have HB := Lib.hid hB
          have HR0 := Lib.hid hr0
          have HR1 := Lib.hid hr1
          have HR2 := Lib.hid hr2
          clear hB hr0 hr1 hr2
          clear v
          rename World => v
          have c0_0 := Sn.bk_c HR0.out 0
          have c0_1 := Sn.bk_c HR0.out 1
          have c1_0 := Sn.bk_c HR1.out 0
          have c1_1 := Sn.bk_c HR1.out 1
          simp only [List.getElem?_toArray, List.getElem?_cons_zero, List.getElem?_cons_succ] at c0_0 c0_1 c1_0 c1_1
          go_wp2_with fail
          clear c0_0 c0_1 c1_0 c1_1
          refine (either_any v).mono ?_
          rintro e v2 ⟨rfl, hb⟩
          have hr2 := Sn.bk_below HR2.out hb (Sn.bk_lt HR2.out)
          have hB := Sn.below_next HB.out hb HB.out.size
          clear HB HR2 hb
          have HB := Lib.hid hB
          have HR2 := Lib.hid hr2
          clear hB hr2
          have H1C := Lib.hid (show (#[.int .u64 0, .int .u64 1] : Array Value).all (·.oneCell') = true from by simp [Value.oneCell'])
          go_wp2_with (with_reducible refine Sn.store_sp (.tmp 6) (.tmp 47) (w.heap.size + 1 + 1) #[.int .u64 0, .int .u64 0] #[.int .u64 0, .int .u64 1] HR2.out rfl rfl rfl rfl rfl rfl H1C.out ?_)
          refine Sn.ret_sp (w.heap.size + 1 + 1) _ (Sn.bk_row HR2.out _) rfl rfl rfl rfl ?_
          exact ⟨rfl, Sn.below_set HB.out (by omega) _⟩
    · by_cases gy1 : y2 < Wd.hib a
      · rw [if_neg (by omega), if_neg (by omega), if_neg (by omega)]
        have HLX := Lib.hid (fun W => low_is hx (b := false) (by simp only [decide_eq_true_eq, decide_eq_false_iff_not]; omega) W)
        have HUX := Lib.hid (fun W => upp_is hx (b := false) (by simp only [decide_eq_true_eq, decide_eq_false_iff_not]; omega) W)
        have HLY := Lib.hid (fun W => low_is hy (b := true) (by simp only [decide_eq_true_eq, decide_eq_false_iff_not]; omega) W)
        have HUY := Lib.hid (fun W => upp_is hy (b := false) (by simp only [decide_eq_true_eq, decide_eq_false_iff_not]; omega) W)
        clear hx hy hx2 hy2 gx1 gy1 gx2
        go_enter Try.func64, Try.ntmps64
        go_upto_region 1 with (fail)
        have hB : Below w.heap.size w (((w.alloc (.cells #[.int .u64 x1, .int .u64 x2] 24)).alloc (.cells #[.int .u64 y1, .int .u64 y2] 24)).alloc (.cells #[.int .u64 0, .int .u64 0] 24)) := ((((Below.refl _ _).alloc (Nat.le_refl _) _).alloc (by simp) _).alloc (by simp; omega) _)
        have hr0 : Sn.Bk (((w.alloc (.cells #[.int .u64 x1, .int .u64 x2] 24)).alloc (.cells #[.int .u64 y1, .int .u64 y2] 24)).alloc (.cells #[.int .u64 0, .int .u64 0] 24)) (w.heap.size) 24 #[.int .u64 x1, .int .u64 x2] := Sn.bk_old (Sn.bk_old (Sn.bk_new _ _ _) _) _
        have hr1 : Sn.Bk (((w.alloc (.cells #[.int .u64 x1, .int .u64 x2] 24)).alloc (.cells #[.int .u64 y1, .int .u64 y2] 24)).alloc (.cells #[.int .u64 0, .int .u64 0] 24)) (w.heap.size + 1) 24 #[.int .u64 y1, .int .u64 y2] := Sn.bk_old (Sn.bk_at (by simp)) _
        have hr2 : Sn.Bk (((w.alloc (.cells #[.int .u64 x1, .int .u64 x2] 24)).alloc (.cells #[.int .u64 y1, .int .u64 y2] 24)).alloc (.cells #[.int .u64 0, .int .u64 0] 24)) (w.heap.size + 1 + 1) 24 #[.int .u64 0, .int .u64 0] := Sn.bk_at (by simp)
        generalize (((w.alloc (.cells #[.int .u64 x1, .int .u64 x2] 24)).alloc (.cells #[.int .u64 y1, .int .u64 y2] 24)).alloc (.cells #[.int .u64 0, .int .u64 0] 24)) = v at *
        have HB := Lib.hid hB
        have HR0 := Lib.hid hr0
        have HR1 := Lib.hid hr1
        have HR2 := Lib.hid hr2
        clear hB hr0 hr1 hr2
        have c0_0 := Sn.bk_c HR0.out 0
        have c0_1 := Sn.bk_c HR0.out 1
        have c1_0 := Sn.bk_c HR1.out 0
        have c1_1 := Sn.bk_c HR1.out 1
        simp only [List.getElem?_toArray, List.getElem?_cons_zero, List.getElem?_cons_succ] at c0_0 c0_1 c1_0 c1_1
        go_wp2_with fail
        clear c0_0 c0_1 c1_0 c1_1
        refine (HLX.out v).mono ?_
        rintro e v2 ⟨rfl, hb⟩
        have hr0 := Sn.bk_below HR0.out hb (Sn.bk_lt HR0.out)
        have hr1 := Sn.bk_below HR1.out hb (Sn.bk_lt HR1.out)
        have hr2 := Sn.bk_below HR2.out hb (Sn.bk_lt HR2.out)
        have hB := Sn.below_next HB.out hb HB.out.size
        clear HB HR0 HR1 HR2 hb
        have HB := Lib.hid hB
        have HR0 := Lib.hid hr0
        have HR1 := Lib.hid hr1
        have HR2 := Lib.hid hr2
        clear hB hr0 hr1 hr2
        clear v
        rename World => v
        have c0_0 := Sn.bk_c HR0.out 0
        have c0_1 := Sn.bk_c HR0.out 1
        have c1_0 := Sn.bk_c HR1.out 0
        have c1_1 := Sn.bk_c HR1.out 1
        simp only [List.getElem?_toArray, List.getElem?_cons_zero, List.getElem?_cons_succ] at c0_0 c0_1 c1_0 c1_1
        go_wp2_with fail
        clear c0_0 c0_1 c1_0 c1_1
        refine (HUX.out v).mono ?_
        rintro e v2 ⟨rfl, hb⟩
        have hr0 := Sn.bk_below HR0.out hb (Sn.bk_lt HR0.out)
        have hr1 := Sn.bk_below HR1.out hb (Sn.bk_lt HR1.out)
        have hr2 := Sn.bk_below HR2.out hb (Sn.bk_lt HR2.out)
        have hB := Sn.below_next HB.out hb HB.out.size
        clear HB HR0 HR1 HR2 hb
        have HB := Lib.hid hB
        have HR0 := Lib.hid hr0
        have HR1 := Lib.hid hr1
        have HR2 := Lib.hid hr2
        clear hB hr0 hr1 hr2
        clear v
        rename World => v
        have c0_0 := Sn.bk_c HR0.out 0
        have c0_1 := Sn.bk_c HR0.out 1
        have c1_0 := Sn.bk_c HR1.out 0
        have c1_1 := Sn.bk_c HR1.out 1
        simp only [List.getElem?_toArray, List.getElem?_cons_zero, List.getElem?_cons_succ] at c0_0 c0_1 c1_0 c1_1
        go_wp2_with fail
        clear c0_0 c0_1 c1_0 c1_1
        refine (HUX.out v).mono ?_
        rintro e v2 ⟨rfl, hb⟩
        have hr0 := Sn.bk_below HR0.out hb (Sn.bk_lt HR0.out)
        have hr1 := Sn.bk_below HR1.out hb (Sn.bk_lt HR1.out)
        have hr2 := Sn.bk_below HR2.out hb (Sn.bk_lt HR2.out)
        have hB := Sn.below_next HB.out hb HB.out.size
        clear HB HR0 HR1 HR2 hb
        have HB := Lib.hid hB
        have HR0 := Lib.hid hr0
        have HR1 := Lib.hid hr1
        have HR2 := Lib.hid hr2
        clear hB hr0 hr1 hr2
        clear v
        rename World => v
        have c0_0 := Sn.bk_c HR0.out 0
        have c0_1 := Sn.bk_c HR0.out 1
        have c1_0 := Sn.bk_c HR1.out 0
        have c1_1 := Sn.bk_c HR1.out 1
        simp only [List.getElem?_toArray, List.getElem?_cons_zero, List.getElem?_cons_succ] at c0_0 c0_1 c1_0 c1_1
        go_wp2_with fail
        clear c0_0 c0_1 c1_0 c1_1
        refine (HLX.out v).mono ?_
        rintro e v2 ⟨rfl, hb⟩
        have hr0 := Sn.bk_below HR0.out hb (Sn.bk_lt HR0.out)
        have hr1 := Sn.bk_below HR1.out hb (Sn.bk_lt HR1.out)
        have hr2 := Sn.bk_below HR2.out hb (Sn.bk_lt HR2.out)
        have hB := Sn.below_next HB.out hb HB.out.size
        clear HB HR0 HR1 HR2 hb
        have HB := Lib.hid hB
        have HR0 := Lib.hid hr0
        have HR1 := Lib.hid hr1
        have HR2 := Lib.hid hr2
        clear hB hr0 hr1 hr2
        clear v
        rename World => v
        have c0_0 := Sn.bk_c HR0.out 0
        have c0_1 := Sn.bk_c HR0.out 1
        have c1_0 := Sn.bk_c HR1.out 0
        have c1_1 := Sn.bk_c HR1.out 1
        simp only [List.getElem?_toArray, List.getElem?_cons_zero, List.getElem?_cons_succ] at c0_0 c0_1 c1_0 c1_1
        go_wp2_with fail
        clear c0_0 c0_1 c1_0 c1_1
        refine (either_any v).mono ?_
        rintro e v2 ⟨rfl, hb⟩
        have hr2 := Sn.bk_below HR2.out hb (Sn.bk_lt HR2.out)
        have hB := Sn.below_next HB.out hb HB.out.size
        clear HB HR2 hb
        have HB := Lib.hid hB
        have HR2 := Lib.hid hr2
        clear hB hr2
        have H1C := Lib.hid (show (#[.int .u64 0, .int .u64 1] : Array Value).all (·.oneCell') = true from by simp [Value.oneCell'])
        go_wp2_with (with_reducible refine Sn.store_sp (.tmp 6) (.tmp 47) (w.heap.size + 1 + 1) #[.int .u64 0, .int .u64 0] #[.int .u64 0, .int .u64 1] HR2.out rfl rfl rfl rfl rfl rfl H1C.out ?_)
        refine Sn.ret_sp (w.heap.size + 1 + 1) _ (Sn.bk_row HR2.out _) rfl rfl rfl rfl ?_
        exact ⟨rfl, Sn.below_set HB.out (by omega) _⟩
      · by_cases gy2 : Wd.hib a ≤ y1
        · rw [if_neg (by omega), if_neg (by omega), if_neg (by omega)]
          have HLX := Lib.hid (fun W => low_is hx (b := false) (by simp only [decide_eq_true_eq, decide_eq_false_iff_not]; omega) W)
          have HUX := Lib.hid (fun W => upp_is hx (b := false) (by simp only [decide_eq_true_eq, decide_eq_false_iff_not]; omega) W)
          have HLY := Lib.hid (fun W => low_is hy (b := false) (by simp only [decide_eq_true_eq, decide_eq_false_iff_not]; omega) W)
          have HUY := Lib.hid (fun W => upp_is hy (b := true) (by simp only [decide_eq_true_eq, decide_eq_false_iff_not]; omega) W)
          clear hx hy hx2 hy2 gx1 gy1 gx2 gy2
          go_enter Try.func64, Try.ntmps64
          go_upto_region 1 with (fail)
          have hB : Below w.heap.size w (((w.alloc (.cells #[.int .u64 x1, .int .u64 x2] 24)).alloc (.cells #[.int .u64 y1, .int .u64 y2] 24)).alloc (.cells #[.int .u64 0, .int .u64 0] 24)) := ((((Below.refl _ _).alloc (Nat.le_refl _) _).alloc (by simp) _).alloc (by simp; omega) _)
          have hr0 : Sn.Bk (((w.alloc (.cells #[.int .u64 x1, .int .u64 x2] 24)).alloc (.cells #[.int .u64 y1, .int .u64 y2] 24)).alloc (.cells #[.int .u64 0, .int .u64 0] 24)) (w.heap.size) 24 #[.int .u64 x1, .int .u64 x2] := Sn.bk_old (Sn.bk_old (Sn.bk_new _ _ _) _) _
          have hr1 : Sn.Bk (((w.alloc (.cells #[.int .u64 x1, .int .u64 x2] 24)).alloc (.cells #[.int .u64 y1, .int .u64 y2] 24)).alloc (.cells #[.int .u64 0, .int .u64 0] 24)) (w.heap.size + 1) 24 #[.int .u64 y1, .int .u64 y2] := Sn.bk_old (Sn.bk_at (by simp)) _
          have hr2 : Sn.Bk (((w.alloc (.cells #[.int .u64 x1, .int .u64 x2] 24)).alloc (.cells #[.int .u64 y1, .int .u64 y2] 24)).alloc (.cells #[.int .u64 0, .int .u64 0] 24)) (w.heap.size + 1 + 1) 24 #[.int .u64 0, .int .u64 0] := Sn.bk_at (by simp)
          generalize (((w.alloc (.cells #[.int .u64 x1, .int .u64 x2] 24)).alloc (.cells #[.int .u64 y1, .int .u64 y2] 24)).alloc (.cells #[.int .u64 0, .int .u64 0] 24)) = v at *
          have HB := Lib.hid hB
          have HR0 := Lib.hid hr0
          have HR1 := Lib.hid hr1
          have HR2 := Lib.hid hr2
          clear hB hr0 hr1 hr2
          have c0_0 := Sn.bk_c HR0.out 0
          have c0_1 := Sn.bk_c HR0.out 1
          have c1_0 := Sn.bk_c HR1.out 0
          have c1_1 := Sn.bk_c HR1.out 1
          simp only [List.getElem?_toArray, List.getElem?_cons_zero, List.getElem?_cons_succ] at c0_0 c0_1 c1_0 c1_1
          go_wp2_with fail
          clear c0_0 c0_1 c1_0 c1_1
          refine (HLX.out v).mono ?_
          rintro e v2 ⟨rfl, hb⟩
          have hr0 := Sn.bk_below HR0.out hb (Sn.bk_lt HR0.out)
          have hr1 := Sn.bk_below HR1.out hb (Sn.bk_lt HR1.out)
          have hr2 := Sn.bk_below HR2.out hb (Sn.bk_lt HR2.out)
          have hB := Sn.below_next HB.out hb HB.out.size
          clear HB HR0 HR1 HR2 hb
          have HB := Lib.hid hB
          have HR0 := Lib.hid hr0
          have HR1 := Lib.hid hr1
          have HR2 := Lib.hid hr2
          clear hB hr0 hr1 hr2
          clear v
          rename World => v
          have c0_0 := Sn.bk_c HR0.out 0
          have c0_1 := Sn.bk_c HR0.out 1
          have c1_0 := Sn.bk_c HR1.out 0
          have c1_1 := Sn.bk_c HR1.out 1
          simp only [List.getElem?_toArray, List.getElem?_cons_zero, List.getElem?_cons_succ] at c0_0 c0_1 c1_0 c1_1
          go_wp2_with fail
          clear c0_0 c0_1 c1_0 c1_1
          refine (HUX.out v).mono ?_
          rintro e v2 ⟨rfl, hb⟩
          have hr0 := Sn.bk_below HR0.out hb (Sn.bk_lt HR0.out)
          have hr1 := Sn.bk_below HR1.out hb (Sn.bk_lt HR1.out)
          have hr2 := Sn.bk_below HR2.out hb (Sn.bk_lt HR2.out)
          have hB := Sn.below_next HB.out hb HB.out.size
          clear HB HR0 HR1 HR2 hb
          have HB := Lib.hid hB
          have HR0 := Lib.hid hr0
          have HR1 := Lib.hid hr1
          have HR2 := Lib.hid hr2
          clear hB hr0 hr1 hr2
          clear v
          rename World => v
          have c0_0 := Sn.bk_c HR0.out 0
          have c0_1 := Sn.bk_c HR0.out 1
          have c1_0 := Sn.bk_c HR1.out 0
          have c1_1 := Sn.bk_c HR1.out 1
          simp only [List.getElem?_toArray, List.getElem?_cons_zero, List.getElem?_cons_succ] at c0_0 c0_1 c1_0 c1_1
          go_wp2_with fail
          clear c0_0 c0_1 c1_0 c1_1
          refine (HUX.out v).mono ?_
          rintro e v2 ⟨rfl, hb⟩
          have hr0 := Sn.bk_below HR0.out hb (Sn.bk_lt HR0.out)
          have hr1 := Sn.bk_below HR1.out hb (Sn.bk_lt HR1.out)
          have hr2 := Sn.bk_below HR2.out hb (Sn.bk_lt HR2.out)
          have hB := Sn.below_next HB.out hb HB.out.size
          clear HB HR0 HR1 HR2 hb
          have HB := Lib.hid hB
          have HR0 := Lib.hid hr0
          have HR1 := Lib.hid hr1
          have HR2 := Lib.hid hr2
          clear hB hr0 hr1 hr2
          clear v
          rename World => v
          have c0_0 := Sn.bk_c HR0.out 0
          have c0_1 := Sn.bk_c HR0.out 1
          have c1_0 := Sn.bk_c HR1.out 0
          have c1_1 := Sn.bk_c HR1.out 1
          simp only [List.getElem?_toArray, List.getElem?_cons_zero, List.getElem?_cons_succ] at c0_0 c0_1 c1_0 c1_1
          go_wp2_with fail
          clear c0_0 c0_1 c1_0 c1_1
          refine (HLX.out v).mono ?_
          rintro e v2 ⟨rfl, hb⟩
          have hr0 := Sn.bk_below HR0.out hb (Sn.bk_lt HR0.out)
          have hr1 := Sn.bk_below HR1.out hb (Sn.bk_lt HR1.out)
          have hr2 := Sn.bk_below HR2.out hb (Sn.bk_lt HR2.out)
          have hB := Sn.below_next HB.out hb HB.out.size
          clear HB HR0 HR1 HR2 hb
          have HB := Lib.hid hB
          have HR0 := Lib.hid hr0
          have HR1 := Lib.hid hr1
          have HR2 := Lib.hid hr2
          clear hB hr0 hr1 hr2
          clear v
          rename World => v
          have c0_0 := Sn.bk_c HR0.out 0
          have c0_1 := Sn.bk_c HR0.out 1
          have c1_0 := Sn.bk_c HR1.out 0
          have c1_1 := Sn.bk_c HR1.out 1
          simp only [List.getElem?_toArray, List.getElem?_cons_zero, List.getElem?_cons_succ] at c0_0 c0_1 c1_0 c1_1
          go_wp2_with fail
          clear c0_0 c0_1 c1_0 c1_1
          refine (either_any v).mono ?_
          rintro e v2 ⟨rfl, hb⟩
          have hr2 := Sn.bk_below HR2.out hb (Sn.bk_lt HR2.out)
          have hB := Sn.below_next HB.out hb HB.out.size
          clear HB HR2 hb
          have HB := Lib.hid hB
          have HR2 := Lib.hid hr2
          clear hB hr2
          have H1C := Lib.hid (show (#[.int .u64 0, .int .u64 1] : Array Value).all (·.oneCell') = true from by simp [Value.oneCell'])
          go_wp2_with (with_reducible refine Sn.store_sp (.tmp 6) (.tmp 47) (w.heap.size + 1 + 1) #[.int .u64 0, .int .u64 0] #[.int .u64 0, .int .u64 1] HR2.out rfl rfl rfl rfl rfl rfl H1C.out ?_)
          refine Sn.ret_sp (w.heap.size + 1 + 1) _ (Sn.bk_row HR2.out _) rfl rfl rfl rfl ?_
          exact ⟨rfl, Sn.below_set HB.out (by omega) _⟩
        · rw [if_neg (by omega), if_neg (by omega), if_neg (by omega)]
          have HLX := Lib.hid (fun W => low_is hx (b := false) (by simp only [decide_eq_true_eq, decide_eq_false_iff_not]; omega) W)
          have HUX := Lib.hid (fun W => upp_is hx (b := false) (by simp only [decide_eq_true_eq, decide_eq_false_iff_not]; omega) W)
          have HLY := Lib.hid (fun W => low_is hy (b := false) (by simp only [decide_eq_true_eq, decide_eq_false_iff_not]; omega) W)
          have HUY := Lib.hid (fun W => upp_is hy (b := false) (by simp only [decide_eq_true_eq, decide_eq_false_iff_not]; omega) W)
          clear hx hy hx2 hy2 gx1 gy1 gx2 gy2
          go_enter Try.func64, Try.ntmps64
          go_upto_region 1 with (fail)
          have hB : Below w.heap.size w (((w.alloc (.cells #[.int .u64 x1, .int .u64 x2] 24)).alloc (.cells #[.int .u64 y1, .int .u64 y2] 24)).alloc (.cells #[.int .u64 0, .int .u64 0] 24)) := ((((Below.refl _ _).alloc (Nat.le_refl _) _).alloc (by simp) _).alloc (by simp; omega) _)
          have hr0 : Sn.Bk (((w.alloc (.cells #[.int .u64 x1, .int .u64 x2] 24)).alloc (.cells #[.int .u64 y1, .int .u64 y2] 24)).alloc (.cells #[.int .u64 0, .int .u64 0] 24)) (w.heap.size) 24 #[.int .u64 x1, .int .u64 x2] := Sn.bk_old (Sn.bk_old (Sn.bk_new _ _ _) _) _
          have hr1 : Sn.Bk (((w.alloc (.cells #[.int .u64 x1, .int .u64 x2] 24)).alloc (.cells #[.int .u64 y1, .int .u64 y2] 24)).alloc (.cells #[.int .u64 0, .int .u64 0] 24)) (w.heap.size + 1) 24 #[.int .u64 y1, .int .u64 y2] := Sn.bk_old (Sn.bk_at (by simp)) _
          have hr2 : Sn.Bk (((w.alloc (.cells #[.int .u64 x1, .int .u64 x2] 24)).alloc (.cells #[.int .u64 y1, .int .u64 y2] 24)).alloc (.cells #[.int .u64 0, .int .u64 0] 24)) (w.heap.size + 1 + 1) 24 #[.int .u64 0, .int .u64 0] := Sn.bk_at (by simp)
          generalize (((w.alloc (.cells #[.int .u64 x1, .int .u64 x2] 24)).alloc (.cells #[.int .u64 y1, .int .u64 y2] 24)).alloc (.cells #[.int .u64 0, .int .u64 0] 24)) = v at *
          have HB := Lib.hid hB
          have HR0 := Lib.hid hr0
          have HR1 := Lib.hid hr1
          have HR2 := Lib.hid hr2
          clear hB hr0 hr1 hr2
          have c0_0 := Sn.bk_c HR0.out 0
          have c0_1 := Sn.bk_c HR0.out 1
          have c1_0 := Sn.bk_c HR1.out 0
          have c1_1 := Sn.bk_c HR1.out 1
          simp only [List.getElem?_toArray, List.getElem?_cons_zero, List.getElem?_cons_succ] at c0_0 c0_1 c1_0 c1_1
          go_wp2_with fail
          clear c0_0 c0_1 c1_0 c1_1
          refine (HLX.out v).mono ?_
          rintro e v2 ⟨rfl, hb⟩
          have hr0 := Sn.bk_below HR0.out hb (Sn.bk_lt HR0.out)
          have hr1 := Sn.bk_below HR1.out hb (Sn.bk_lt HR1.out)
          have hr2 := Sn.bk_below HR2.out hb (Sn.bk_lt HR2.out)
          have hB := Sn.below_next HB.out hb HB.out.size
          clear HB HR0 HR1 HR2 hb
          have HB := Lib.hid hB
          have HR0 := Lib.hid hr0
          have HR1 := Lib.hid hr1
          have HR2 := Lib.hid hr2
          clear hB hr0 hr1 hr2
          clear v
          rename World => v
          have c0_0 := Sn.bk_c HR0.out 0
          have c0_1 := Sn.bk_c HR0.out 1
          have c1_0 := Sn.bk_c HR1.out 0
          have c1_1 := Sn.bk_c HR1.out 1
          simp only [List.getElem?_toArray, List.getElem?_cons_zero, List.getElem?_cons_succ] at c0_0 c0_1 c1_0 c1_1
          go_wp2_with fail
          clear c0_0 c0_1 c1_0 c1_1
          refine (HUX.out v).mono ?_
          rintro e v2 ⟨rfl, hb⟩
          have hr0 := Sn.bk_below HR0.out hb (Sn.bk_lt HR0.out)
          have hr1 := Sn.bk_below HR1.out hb (Sn.bk_lt HR1.out)
          have hr2 := Sn.bk_below HR2.out hb (Sn.bk_lt HR2.out)
          have hB := Sn.below_next HB.out hb HB.out.size
          clear HB HR0 HR1 HR2 hb
          have HB := Lib.hid hB
          have HR0 := Lib.hid hr0
          have HR1 := Lib.hid hr1
          have HR2 := Lib.hid hr2
          clear hB hr0 hr1 hr2
          clear v
          rename World => v
          have c0_0 := Sn.bk_c HR0.out 0
          have c0_1 := Sn.bk_c HR0.out 1
          have c1_0 := Sn.bk_c HR1.out 0
          have c1_1 := Sn.bk_c HR1.out 1
          simp only [List.getElem?_toArray, List.getElem?_cons_zero, List.getElem?_cons_succ] at c0_0 c0_1 c1_0 c1_1
          go_wp2_with fail
          clear c0_0 c0_1 c1_0 c1_1
          refine (HUX.out v).mono ?_
          rintro e v2 ⟨rfl, hb⟩
          have hr0 := Sn.bk_below HR0.out hb (Sn.bk_lt HR0.out)
          have hr1 := Sn.bk_below HR1.out hb (Sn.bk_lt HR1.out)
          have hr2 := Sn.bk_below HR2.out hb (Sn.bk_lt HR2.out)
          have hB := Sn.below_next HB.out hb HB.out.size
          clear HB HR0 HR1 HR2 hb
          have HB := Lib.hid hB
          have HR0 := Lib.hid hr0
          have HR1 := Lib.hid hr1
          have HR2 := Lib.hid hr2
          clear hB hr0 hr1 hr2
          clear v
          rename World => v
          have c0_0 := Sn.bk_c HR0.out 0
          have c0_1 := Sn.bk_c HR0.out 1
          have c1_0 := Sn.bk_c HR1.out 0
          have c1_1 := Sn.bk_c HR1.out 1
          simp only [List.getElem?_toArray, List.getElem?_cons_zero, List.getElem?_cons_succ] at c0_0 c0_1 c1_0 c1_1
          go_wp2_with fail
          clear c0_0 c0_1 c1_0 c1_1
          refine (HLX.out v).mono ?_
          rintro e v2 ⟨rfl, hb⟩
          have hr0 := Sn.bk_below HR0.out hb (Sn.bk_lt HR0.out)
          have hr1 := Sn.bk_below HR1.out hb (Sn.bk_lt HR1.out)
          have hr2 := Sn.bk_below HR2.out hb (Sn.bk_lt HR2.out)
          have hB := Sn.below_next HB.out hb HB.out.size
          clear HB HR0 HR1 HR2 hb
          have HB := Lib.hid hB
          have HR0 := Lib.hid hr0
          have HR1 := Lib.hid hr1
          have HR2 := Lib.hid hr2
          clear hB hr0 hr1 hr2
          clear v
          rename World => v
          have c0_0 := Sn.bk_c HR0.out 0
          have c0_1 := Sn.bk_c HR0.out 1
          have c1_0 := Sn.bk_c HR1.out 0
          have c1_1 := Sn.bk_c HR1.out 1
          simp only [List.getElem?_toArray, List.getElem?_cons_zero, List.getElem?_cons_succ] at c0_0 c0_1 c1_0 c1_1
          go_wp2_with fail
          clear c0_0 c0_1 c1_0 c1_1
          refine (either_any v).mono ?_
          rintro e v2 ⟨rfl, hb⟩
          have hr2 := Sn.bk_below HR2.out hb (Sn.bk_lt HR2.out)
          have hB := Sn.below_next HB.out hb HB.out.size
          clear HB HR2 hb
          have HB := Lib.hid hB
          have HR2 := Lib.hid hr2
          clear hB hr2
          have H1C := Lib.hid (show (#[.int .u64 0, .int .u64 1] : Array Value).all (·.oneCell') = true from by simp [Value.oneCell'])
          go_wp2_with (with_reducible refine Sn.store_sp (.tmp 6) (.tmp 47) (w.heap.size + 1 + 1) #[.int .u64 0, .int .u64 0] #[.int .u64 0, .int .u64 1] HR2.out rfl rfl rfl rfl rfl rfl H1C.out ?_)
          refine Sn.ret_sp (w.heap.size + 1 + 1) _ (Sn.bk_row HR2.out _) rfl rfl rfl rfl ?_
          exact ⟨rfl, Sn.below_set HB.out (by omega) _⟩


end Go.Proofs.Ytbjckcjfambpoaa
