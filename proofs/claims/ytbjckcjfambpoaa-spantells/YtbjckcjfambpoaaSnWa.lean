/-
  Layer 11: the rules of OpRem, of the bits, of the moves.
-/
import Derived.Test.YtbjckcjfambpoaaSnW9
namespace Go.Proofs.Ytbjckcjfambpoaa
set_option linter.unusedSimpArgs false
set_option linter.unusedVariables false
open Go.RowKit Go.Maps
set_option maxRecDepth 100000

set_option maxHeartbeats 6400000 in
theorem rest_any (a : Int) (x y : Sn.S) (hx : Sn.Ok a x) (hy : Sn.Ok a y) (w : World) :
    Calls Try.prog 26 #[Sn.v x, Sn.v y] w fun e w' => ∃ r, e = .returned r ∧ Sn.For w' r a x y (Sn.tab 12 a x y) ∧ Below w.heap.size w w' := by
  obtain ⟨x1, x2⟩ := x
  obtain ⟨y1, y2⟩ := y
  have hm := Wd.msk_hi a
  have hx2 := hx
  have hy2 := hy
  unfold Sn.Ok at hx2 hy2
  dsimp only at hx2 hy2
  by_cases g1 : x2 < y1
  · rw [show Sn.tab 12 a (x1, x2) (y1, y2) = (x1, x2) from if_pos g1]
    show Calls Try.prog 26 #[.agg #[.int .u64 x1, .int .u64 x2], .agg #[.int .u64 y1, .int .u64 y2]] w _
    go_enter Try.func26, Try.ntmps26
    go_upto_region 1 with (fail)
    have hB : Below w.heap.size w (((w.alloc (.cells #[.int .u64 x1, .int .u64 x2] 24)).alloc (.cells #[.int .u64 y1, .int .u64 y2] 24)).alloc (.cells Sn.Z4 43)) := ((((Below.refl _ _).alloc (Nat.le_refl _) _).alloc (by simp) _).alloc (by simp; omega) _)
    have hr0 : Sn.Bk (((w.alloc (.cells #[.int .u64 x1, .int .u64 x2] 24)).alloc (.cells #[.int .u64 y1, .int .u64 y2] 24)).alloc (.cells Sn.Z4 43)) (w.heap.size) 24 #[.int .u64 x1, .int .u64 x2] := Sn.bk_old (Sn.bk_old (Sn.bk_new _ _ _) _) _
    have hr1 : Sn.Bk (((w.alloc (.cells #[.int .u64 x1, .int .u64 x2] 24)).alloc (.cells #[.int .u64 y1, .int .u64 y2] 24)).alloc (.cells Sn.Z4 43)) (w.heap.size + 1) 24 #[.int .u64 y1, .int .u64 y2] := Sn.bk_old (Sn.bk_at (by simp)) _
    have hr2 : Sn.Bk (((w.alloc (.cells #[.int .u64 x1, .int .u64 x2] 24)).alloc (.cells #[.int .u64 y1, .int .u64 y2] 24)).alloc (.cells Sn.Z4 43)) (w.heap.size + 1 + 1) 43 Sn.Z4 := Sn.bk_at (by simp)
    generalize (((w.alloc (.cells #[.int .u64 x1, .int .u64 x2] 24)).alloc (.cells #[.int .u64 y1, .int .u64 y2] 24)).alloc (.cells Sn.Z4 43)) = v at *
    have HB := Lib.hid hB
    have HR0 := Lib.hid hr0
    have HR1 := Lib.hid hr1
    have HR2 := Lib.hid hr2
    clear hB hr0 hr1 hr2
    have c0_0 := Sn.bk_c HR0.out 0
    have c0_1 := Sn.bk_c HR0.out 1
    have c1_0 := Sn.bk_c HR1.out 0
    have c1_1 := Sn.bk_c HR1.out 1
    simp only [List.getElem?_toArray, List.getElem?_cons_zero, List.getElem?_cons_succ] at c0_0 c0_1 c1_0 c1_1
    go_wp2_with fail
    refine (rising_any true 53 #[] _).mono ?_
    rintro e v4 ⟨rfl, hb⟩
    have hr2 := Sn.bk_below HR2.out hb (Sn.bk_lt HR2.out)
    have hB := Sn.below_next HB.out hb HB.out.size
    clear HB HR2 hb
    have HB := Lib.hid hB
    have HR2 := Lib.hid hr2
    clear hB hr2
    have H1C := Lib.hid (show (#[.bool true, .func (.func 53) #[] #[], .func (.func 53) #[] #[], .bool false] : Array Value).all (·.oneCell') = true from by simp [Value.oneCell'])
    go_wp2_with (with_reducible refine Sn.store_rl (.tmp 4) (.tmp 13) (w.heap.size + 1 + 1) Sn.Z4 #[.bool true, .func (.func 53) #[] #[], .func (.func 53) #[] #[], .bool false] HR2.out rfl rfl rfl rfl rfl rfl H1C.out ?_)
    refine Sn.ret_rl (w.heap.size + 1 + 1) _ (Sn.bk_row HR2.out _) rfl rfl rfl rfl ?_
    refine ⟨_, rfl, fun W hW => ?_, Sn.below_set HB.out (by omega) _⟩
    exact rspan_f 53 53 #[] #[] a (x1, x2) (y1, y2) (x1) (x2) W (fun args W => by simp [go_sem]) (fun args W => by simp [go_sem])
      (fun W2 h2 => by rw [Sn.app0]; exact fst_any x1 y1  W2)
      (fun W2 h2 => by rw [Sn.app0]; exact fst_any x2 y2  W2)
  by_cases g2 : y1 = 0
  · subst g2
    rw [show Sn.tab 12 a (x1, x2) (0, y2) = (0, x2) from (if_neg g1).trans (if_pos rfl)]
    show Calls Try.prog 26 #[.agg #[.int .u64 x1, .int .u64 x2], .agg #[.int .u64 0, .int .u64 y2]] w _
    go_enter Try.func26, Try.ntmps26
    go_upto_region 1 with (fail)
    have hB : Below w.heap.size w (((w.alloc (.cells #[.int .u64 x1, .int .u64 x2] 24)).alloc (.cells #[.int .u64 0, .int .u64 y2] 24)).alloc (.cells Sn.Z4 43)) := ((((Below.refl _ _).alloc (Nat.le_refl _) _).alloc (by simp) _).alloc (by simp; omega) _)
    have hr0 : Sn.Bk (((w.alloc (.cells #[.int .u64 x1, .int .u64 x2] 24)).alloc (.cells #[.int .u64 0, .int .u64 y2] 24)).alloc (.cells Sn.Z4 43)) (w.heap.size) 24 #[.int .u64 x1, .int .u64 x2] := Sn.bk_old (Sn.bk_old (Sn.bk_new _ _ _) _) _
    have hr1 : Sn.Bk (((w.alloc (.cells #[.int .u64 x1, .int .u64 x2] 24)).alloc (.cells #[.int .u64 0, .int .u64 y2] 24)).alloc (.cells Sn.Z4 43)) (w.heap.size + 1) 24 #[.int .u64 0, .int .u64 y2] := Sn.bk_old (Sn.bk_at (by simp)) _
    have hr2 : Sn.Bk (((w.alloc (.cells #[.int .u64 x1, .int .u64 x2] 24)).alloc (.cells #[.int .u64 0, .int .u64 y2] 24)).alloc (.cells Sn.Z4 43)) (w.heap.size + 1 + 1) 43 Sn.Z4 := Sn.bk_at (by simp)
    generalize (((w.alloc (.cells #[.int .u64 x1, .int .u64 x2] 24)).alloc (.cells #[.int .u64 0, .int .u64 y2] 24)).alloc (.cells Sn.Z4 43)) = v at *
    have HB := Lib.hid hB
    have HR0 := Lib.hid hr0
    have HR1 := Lib.hid hr1
    have HR2 := Lib.hid hr2
    clear hB hr0 hr1 hr2
    have c0_0 := Sn.bk_c HR0.out 0
    have c0_1 := Sn.bk_c HR0.out 1
    have c1_0 := Sn.bk_c HR1.out 0
    have c1_1 := Sn.bk_c HR1.out 1
    simp only [List.getElem?_toArray, List.getElem?_cons_zero, List.getElem?_cons_succ] at c0_0 c0_1 c1_0 c1_1
    have H1C := Lib.hid (show (#[.bool true, .func (.func 54) #[] #[], .func (.func 53) #[] #[], .bool false] : Array Value).all (·.oneCell') = true from by simp [Value.oneCell'])
    go_wp2_with (with_reducible refine Sn.store_rl (.tmp 4) (.tmp 20) (w.heap.size + 1 + 1) Sn.Z4 #[.bool true, .func (.func 54) #[] #[], .func (.func 53) #[] #[], .bool false] HR2.out rfl rfl rfl rfl rfl rfl H1C.out ?_)
    refine Sn.ret_rl (w.heap.size + 1 + 1) _ (Sn.bk_row HR2.out _) rfl rfl rfl rfl ?_
    refine ⟨_, rfl, fun W hW => ?_, Sn.below_set HB.out (by omega) _⟩
    exact rspan_f 54 53 #[] #[] a (x1, x2) (0, y2) (0) (x2) W (fun args W => by simp [go_sem]) (fun args W => by simp [go_sem])
      (fun W2 h2 => by rw [Sn.app0]; exact zero_any0 x1 0  W2)
      (fun W2 h2 => by rw [Sn.app0]; exact fst_any x2 y2  W2)
  rw [show Sn.tab 12 a (x1, x2) (y1, y2) = (0, min x2 (y2 - 1)) from (if_neg g1).trans (if_neg g2)]
  have d0 : (y1 != 0) = true := by simpa using g2
  show Calls Try.prog 26 #[.agg #[.int .u64 x1, .int .u64 x2], .agg #[.int .u64 y1, .int .u64 y2]] w _
  go_enter Try.func26, Try.ntmps26
  go_upto_region 1 with (fail)
  have hB : Below w.heap.size w (((w.alloc (.cells #[.int .u64 x1, .int .u64 x2] 24)).alloc (.cells #[.int .u64 y1, .int .u64 y2] 24)).alloc (.cells Sn.Z4 43)) := ((((Below.refl _ _).alloc (Nat.le_refl _) _).alloc (by simp) _).alloc (by simp; omega) _)
  have hr0 : Sn.Bk (((w.alloc (.cells #[.int .u64 x1, .int .u64 x2] 24)).alloc (.cells #[.int .u64 y1, .int .u64 y2] 24)).alloc (.cells Sn.Z4 43)) (w.heap.size) 24 #[.int .u64 x1, .int .u64 x2] := Sn.bk_old (Sn.bk_old (Sn.bk_new _ _ _) _) _
  have hr1 : Sn.Bk (((w.alloc (.cells #[.int .u64 x1, .int .u64 x2] 24)).alloc (.cells #[.int .u64 y1, .int .u64 y2] 24)).alloc (.cells Sn.Z4 43)) (w.heap.size + 1) 24 #[.int .u64 y1, .int .u64 y2] := Sn.bk_old (Sn.bk_at (by simp)) _
  have hr2 : Sn.Bk (((w.alloc (.cells #[.int .u64 x1, .int .u64 x2] 24)).alloc (.cells #[.int .u64 y1, .int .u64 y2] 24)).alloc (.cells Sn.Z4 43)) (w.heap.size + 1 + 1) 43 Sn.Z4 := Sn.bk_at (by simp)
  generalize (((w.alloc (.cells #[.int .u64 x1, .int .u64 x2] 24)).alloc (.cells #[.int .u64 y1, .int .u64 y2] 24)).alloc (.cells Sn.Z4 43)) = v at *
  have HB := Lib.hid hB
  have HR0 := Lib.hid hr0
  have HR1 := Lib.hid hr1
  have HR2 := Lib.hid hr2
  clear hB hr0 hr1 hr2
  have c0_0 := Sn.bk_c HR0.out 0
  have c0_1 := Sn.bk_c HR0.out 1
  have c1_0 := Sn.bk_c HR1.out 0
  have c1_1 := Sn.bk_c HR1.out 1
  simp only [List.getElem?_toArray, List.getElem?_cons_zero, List.getElem?_cons_succ] at c0_0 c0_1 c1_0 c1_1
  have H1C := Lib.hid (show (#[.bool true, .func (.func 54) #[] #[], .func (.func 55) #[] #[], .bool false] : Array Value).all (·.oneCell') = true from by simp [Value.oneCell'])
  go_wp2_with (with_reducible refine Sn.store_rl (.tmp 4) (.tmp 18) (w.heap.size + 1 + 1) Sn.Z4 #[.bool true, .func (.func 54) #[] #[], .func (.func 55) #[] #[], .bool false] HR2.out rfl rfl rfl rfl rfl rfl H1C.out ?_)
  refine Sn.ret_rl (w.heap.size + 1 + 1) _ (Sn.bk_row HR2.out _) rfl rfl rfl rfl ?_
  refine ⟨_, rfl, fun W hW => ?_, Sn.below_set HB.out (by omega) _⟩
  exact rspan_f 54 55 #[] #[] a (x1, x2) (y1, y2) (0) (min x2 (y2 - 1)) W (fun args W => by simp [go_sem]) (fun args W => by simp [go_sem])
    (fun W2 h2 => by rw [Sn.app0]; exact zero_any0 x1 y1  W2)
    (fun W2 h2 => by rw [Sn.app0]; exact remc_any x2 y2 (by omega) (by omega) W2)

set_option maxHeartbeats 6400000 in
theorem bitwise_any (op a : Int) (x y : Sn.S) (hop : op = 13 ∨ op = 14 ∨ op = 15) (hx : Sn.Ok a x) (hy : Sn.Ok a y) (w : World) :
    Calls Try.prog 27 #[.int .i64 op] w fun e w' => ∃ r, e = .returned r ∧ Sn.For w' r a x y (Sn.tab op a x y) ∧ Below w.heap.size w w' := by
  obtain ⟨x1, x2⟩ := x
  obtain ⟨y1, y2⟩ := y
  have hm := Wd.msk_hi a
  have hx2 := hx
  have hy2 := hy
  unfold Sn.Ok at hx2 hy2
  dsimp only at hx2 hy2
  rcases hop with h | h | h
  · subst h
    rw [show Sn.tab 13 a (x1, x2) (y1, y2) = (0, min x2 y2) from rfl]
    show Calls Try.prog 27 #[.int .i64 13] w _
    go_enter Try.func27, Try.ntmps27
    go_upto_region 1 with (fail)
    have hB : Below w.heap.size w (w.alloc (.cells Sn.Z4 43)) := ((Below.refl _ _).alloc (Nat.le_refl _) _)
    have hr0 : Sn.Bk (w.alloc (.cells Sn.Z4 43)) (w.heap.size) 43 Sn.Z4 := Sn.bk_new _ _ _
    generalize (w.alloc (.cells Sn.Z4 43)) = v at *
    have HB := Lib.hid hB
    have HR0 := Lib.hid hr0
    clear hB hr0
    have H1C := Lib.hid (show (#[.bool true, .func (.func 54) #[] #[], .func (.func 58) #[] #[], .bool false] : Array Value).all (·.oneCell') = true from by simp [Value.oneCell'])
    go_wp2_with (with_reducible refine Sn.store_rl (.tmp 2) (.tmp 7) (w.heap.size) Sn.Z4 #[.bool true, .func (.func 54) #[] #[], .func (.func 58) #[] #[], .bool false] HR0.out rfl rfl rfl rfl rfl rfl H1C.out ?_)
    refine Sn.ret_rl (w.heap.size) _ (Sn.bk_row HR0.out _) rfl rfl rfl rfl ?_
    refine ⟨_, rfl, fun W hW => ?_, Sn.below_set HB.out (by omega) _⟩
    exact rspan_f 54 58 #[] #[] a (x1, x2) (y1, y2) (0) (min x2 y2) W (fun args W => by simp [go_sem]) (fun args W => by simp [go_sem])
      (fun W2 h2 => by rw [Sn.app0]; exact zero_any0 x1 y1  W2)
      (fun W2 h2 => by rw [Sn.app0]; exact minc_any x2 y2  W2)
  · subst h
    rw [show Sn.tab 14 a (x1, x2) (y1, y2) = (max x1 y1, Sn.ones (max x2 y2)) from rfl]
    show Calls Try.prog 27 #[.int .i64 14] w _
    go_enter Try.func27, Try.ntmps27
    go_upto_region 1 with (fail)
    have hB : Below w.heap.size w (w.alloc (.cells Sn.Z4 43)) := ((Below.refl _ _).alloc (Nat.le_refl _) _)
    have hr0 : Sn.Bk (w.alloc (.cells Sn.Z4 43)) (w.heap.size) 43 Sn.Z4 := Sn.bk_new _ _ _
    generalize (w.alloc (.cells Sn.Z4 43)) = v at *
    have HB := Lib.hid hB
    have HR0 := Lib.hid hr0
    clear hB hr0
    have H1C := Lib.hid (show (#[.bool true, .func (.func 59) #[] #[], .func (.func 56) #[] #[], .bool false] : Array Value).all (·.oneCell') = true from by simp [Value.oneCell'])
    go_wp2_with (with_reducible refine Sn.store_rl (.tmp 2) (.tmp 11) (w.heap.size) Sn.Z4 #[.bool true, .func (.func 59) #[] #[], .func (.func 56) #[] #[], .bool false] HR0.out rfl rfl rfl rfl rfl rfl H1C.out ?_)
    refine Sn.ret_rl (w.heap.size) _ (Sn.bk_row HR0.out _) rfl rfl rfl rfl ?_
    refine ⟨_, rfl, fun W hW => ?_, Sn.below_set HB.out (by omega) _⟩
    exact rspan_f 59 56 #[] #[] a (x1, x2) (y1, y2) (max x1 y1) (Sn.ones (max x2 y2)) W (fun args W => by simp [go_sem]) (fun args W => by simp [go_sem])
      (fun W2 h2 => by rw [Sn.app0]; exact maxc_any x1 y1  W2)
      (fun W2 h2 => by rw [Sn.app0]; exact onesc_any x2 y2 (by omega) (by omega) (by omega) (by omega) W2)
  · subst h
    rw [show Sn.tab 15 a (x1, x2) (y1, y2) = (0, Sn.ones (max x2 y2)) from rfl]
    show Calls Try.prog 27 #[.int .i64 15] w _
    go_enter Try.func27, Try.ntmps27
    go_upto_region 1 with (fail)
    have hB : Below w.heap.size w (w.alloc (.cells Sn.Z4 43)) := ((Below.refl _ _).alloc (Nat.le_refl _) _)
    have hr0 : Sn.Bk (w.alloc (.cells Sn.Z4 43)) (w.heap.size) 43 Sn.Z4 := Sn.bk_new _ _ _
    generalize (w.alloc (.cells Sn.Z4 43)) = v at *
    have HB := Lib.hid hB
    have HR0 := Lib.hid hr0
    clear hB hr0
    have H1C := Lib.hid (show (#[.bool true, .func (.func 54) #[] #[], .func (.func 56) #[] #[], .bool false] : Array Value).all (·.oneCell') = true from by simp [Value.oneCell'])
    go_wp2_with (with_reducible refine Sn.store_rl (.tmp 2) (.tmp 13) (w.heap.size) Sn.Z4 #[.bool true, .func (.func 54) #[] #[], .func (.func 56) #[] #[], .bool false] HR0.out rfl rfl rfl rfl rfl rfl H1C.out ?_)
    refine Sn.ret_rl (w.heap.size) _ (Sn.bk_row HR0.out _) rfl rfl rfl rfl ?_
    refine ⟨_, rfl, fun W hW => ?_, Sn.below_set HB.out (by omega) _⟩
    exact rspan_f 54 56 #[] #[] a (x1, x2) (y1, y2) (0) (Sn.ones (max x2 y2)) W (fun args W => by simp [go_sem]) (fun args W => by simp [go_sem])
      (fun W2 h2 => by rw [Sn.app0]; exact zero_any0 x1 y1  W2)
      (fun W2 h2 => by rw [Sn.app0]; exact onesc_any x2 y2 (by omega) (by omega) (by omega) (by omega) W2)


end Go.Proofs.Ytbjckcjfambpoaa
