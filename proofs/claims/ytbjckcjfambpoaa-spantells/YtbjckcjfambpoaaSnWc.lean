/-
  Layer 11: Apply.
-/
import Derived.Test.YtbjckcjfambpoaaSnWb
import Derived.Test.YtbjckcjfambpoaaWdW2
namespace Go.Proofs.Ytbjckcjfambpoaa
set_option linter.unusedSimpArgs false
set_option linter.unusedVariables false
open Go.RowKit Go.Maps
set_option maxRecDepth 100000

theorem rule_is {w' : World} {r : Value} {a : Int} {x y R : Sn.S} (h : Sn.For w' r a x y R) (W : World) (hb : Below w'.heap.size w' W) :
    Calls Try.prog 25 #[r, .int .i64 a, Sn.v x, Sn.v y] W fun e W' => e = .returned (Sn.v R) ∧ Below W.heap.size W W' := h W hb
set_option maxHeartbeats 6400000 in
theorem apply_pt (op a : Int) (x y : Sn.S) (w : World) (E1 : (Sn.rt a x).1 = (Sn.rt a x).2) (E2 : (Sn.rt a y).1 = (Sn.rt a y).2) (hpx : Sn.Ok a (Sn.rt a x)) (hpy : Sn.Ok a (Sn.rt a y)) :
    Calls Try.prog 9 #[.int .i64 op, .int .i64 a, Sn.v x, Sn.v y] w fun e w' => e = .returned (Sn.v (Wd.app op a (Sn.rt a x).1 (Sn.rt a y).1, Wd.app op a (Sn.rt a x).1 (Sn.rt a y).1)) ∧ Below w.heap.size w w' := by
  obtain ⟨x1, x2⟩ := x
  obtain ⟨y1, y2⟩ := y
  have HX := Lib.hid (fun W => right_any a (x1, x2) W)
  have HY := Lib.hid (fun W => right_any a (y1, y2) W)
  generalize Sn.rt a (x1, x2) = rx at *
  generalize Sn.rt a (y1, y2) = ry at *
  obtain ⟨p1, p2⟩ := rx
  obtain ⟨q1, q2⟩ := ry
  dsimp only at *
  obtain ⟨t, ht⟩ : ∃ t, Wd.app op a p1 q1 = t := ⟨_, rfl⟩
  rw [ht]
  have HA := fun W => app_any op a p1 q1 W
  simp only [ht] at HA
  have HHA := Lib.hid HA
  clear HA ht
  have HE1 := Lib.hid E1
  have HE2 := Lib.hid E2
  clear E1 E2
  show Calls Try.prog 9 #[.int .i64 op, .int .i64 a, .agg #[.int .u64 x1, .int .u64 x2], .agg #[.int .u64 y1, .int .u64 y2]] w _
  go_enter Try.func9, Try.ntmps9
  go_upto_region 1 with (fail)
  have hB : Below w.heap.size w (((w.alloc (.cells #[.int .u64 x1, .int .u64 x2] 24)).alloc (.cells #[.int .u64 y1, .int .u64 y2] 24)).alloc (.cells #[.int .u64 0, .int .u64 0] 24)) := ((((Below.refl _ _).alloc (Nat.le_refl _) _).alloc (by simp) _).alloc (by simp; omega) _)
  have hr0 : Sn.Bk (((w.alloc (.cells #[.int .u64 x1, .int .u64 x2] 24)).alloc (.cells #[.int .u64 y1, .int .u64 y2] 24)).alloc (.cells #[.int .u64 0, .int .u64 0] 24)) (w.heap.size) 24 #[.int .u64 x1, .int .u64 x2] := Sn.bk_old (Sn.bk_old (Sn.bk_new _ _ _) _) _
  have hr1 : Sn.Bk (((w.alloc (.cells #[.int .u64 x1, .int .u64 x2] 24)).alloc (.cells #[.int .u64 y1, .int .u64 y2] 24)).alloc (.cells #[.int .u64 0, .int .u64 0] 24)) (w.heap.size + 1) 24 #[.int .u64 y1, .int .u64 y2] := Sn.bk_old (Sn.bk_at (by simp)) _
  have hr2 : Sn.Bk (((w.alloc (.cells #[.int .u64 x1, .int .u64 x2] 24)).alloc (.cells #[.int .u64 y1, .int .u64 y2] 24)).alloc (.cells #[.int .u64 0, .int .u64 0] 24)) (w.heap.size + 1 + 1) 24 #[.int .u64 0, .int .u64 0] := Sn.bk_at (by simp)
  generalize (((w.alloc (.cells #[.int .u64 x1, .int .u64 x2] 24)).alloc (.cells #[.int .u64 y1, .int .u64 y2] 24)).alloc (.cells #[.int .u64 0, .int .u64 0] 24)) = v at *
  have HB := Lib.hid hB
  have HR0 := Lib.hid hr0
  have HR1 := Lib.hid hr1
  have HR2 := Lib.hid hr2
  clear hB hr0 hr1 hr2
  refine qc_tail (fun W => Below v.heap.size v W) 6 (by kernel_rfl) (by kernel_rfl) (Below.refl _ _).drew ?_
  simp only [List.take_succ_cons, List.take_zero, List.drop_succ_cons, List.drop_zero]
  refine qc_take (.int .i64 a) (by rfl) (fun W hW => ?_) ?_
  · (try dsimp only at hW)
    go_simp
  try simp only [List.getElem_toArray, List.getElem_cons_succ, List.getElem_cons_zero, Act.put, List.setIfInBounds_toArray, List.set_cons_zero, List.set_cons_succ]
  refine qc_take (.agg #[.int .u64 x1, .int .u64 x2]) (by rfl) (fun W hW => ?_) ?_
  · (try dsimp only at hW)
    have y := Sn.bk_below HR0.out hW (Sn.bk_lt HR0.out)
    have y0 := Sn.bk_c y 0
    have y1 := Sn.bk_c y 1
    simp only [List.getElem?_toArray, List.getElem?_cons_zero, List.getElem?_cons_succ] at y0 y1
    go_simp
  try simp only [List.getElem_toArray, List.getElem_cons_succ, List.getElem_cons_zero, Act.put, List.setIfInBounds_toArray, List.set_cons_zero, List.set_cons_succ]
  refine qc_take (.agg #[.int .u64 p1, .int .u64 p2]) (by rfl) (fun W hW => ?_) ?_
  · (try dsimp only at hW)
    go_simp
    exact (HX.out W).mono fun e w9 h9 => ⟨h9.1, Sn.below_next hW h9.2 hW.size⟩
  try simp only [List.getElem_toArray, List.getElem_cons_succ, List.getElem_cons_zero, Act.put, List.setIfInBounds_toArray, List.set_cons_zero, List.set_cons_succ]
  refine qc_take (.int .i64 a) (by rfl) (fun W hW => ?_) ?_
  · (try dsimp only at hW)
    go_simp
  try simp only [List.getElem_toArray, List.getElem_cons_succ, List.getElem_cons_zero, Act.put, List.setIfInBounds_toArray, List.set_cons_zero, List.set_cons_succ]
  refine qc_take (.agg #[.int .u64 y1, .int .u64 y2]) (by rfl) (fun W hW => ?_) ?_
  · (try dsimp only at hW)
    have y := Sn.bk_below HR1.out hW (Sn.bk_lt HR1.out)
    have y0 := Sn.bk_c y 0
    have y1 := Sn.bk_c y 1
    simp only [List.getElem?_toArray, List.getElem?_cons_zero, List.getElem?_cons_succ] at y0 y1
    go_simp
  try simp only [List.getElem_toArray, List.getElem_cons_succ, List.getElem_cons_zero, Act.put, List.setIfInBounds_toArray, List.set_cons_zero, List.set_cons_succ]
  refine qc_take (.agg #[.int .u64 q1, .int .u64 q2]) (by rfl) (fun W hW => ?_) ?_
  · (try dsimp only at hW)
    go_simp
    exact (HY.out W).mono fun e w9 h9 => ⟨h9.1, Sn.below_next hW h9.2 hW.size⟩
  try simp only [List.getElem_toArray, List.getElem_cons_succ, List.getElem_cons_zero, Act.put, List.setIfInBounds_toArray, List.set_cons_zero, List.set_cons_succ]
  refine wpQuiet_nil ?_
  intro v2 hb
  have hr0 := Sn.bk_below HR0.out hb (Sn.bk_lt HR0.out)
  have hr1 := Sn.bk_below HR1.out hb (Sn.bk_lt HR1.out)
  have hr2 := Sn.bk_below HR2.out hb (Sn.bk_lt HR2.out)
  have hB := Sn.below_next HB.out hb HB.out.size
  clear HB HR0 HR1 HR2 hb
  have HB := Lib.hid hB
  have HR0 := Lib.hid hr0
  have HR1 := Lib.hid hr1
  have HR2 := Lib.hid hr2
  clear hB hr0 hr1 hr2
  have H1C := Lib.hid (show (#[.int .u64 p1, .int .u64 p2] : Array Value).all (·.oneCell') = true by simp [Value.oneCell'])
  have H2C := Lib.hid (show (#[.int .u64 q1, .int .u64 q2] : Array Value).all (·.oneCell') = true by simp [Value.oneCell'])
  refine Sn.store_sp (.tmp 6) (.tmp 12) (w.heap.size) #[.int .u64 x1, .int .u64 x2] #[.int .u64 p1, .int .u64 p2] HR0.out rfl rfl rfl rfl rfl rfl H1C.out ?_
  refine Sn.store_sp (.tmp 7) (.tmp 15) (w.heap.size + 1) #[.int .u64 y1, .int .u64 y2] #[.int .u64 q1, .int .u64 q2] (Sn.bk_row_other HR1.out (by omega) _) rfl rfl rfl rfl rfl rfl H2C.out ?_
  have hB : Below w.heap.size w ((v2.setRow (w.heap.size) #[.int .u64 p1, .int .u64 p2]).setRow (w.heap.size + 1) #[.int .u64 q1, .int .u64 q2]) := Sn.below_set (Sn.below_set HB.out (by omega) _) (by omega) _
  have hr0 : Sn.Bk ((v2.setRow (w.heap.size) #[.int .u64 p1, .int .u64 p2]).setRow (w.heap.size + 1) #[.int .u64 q1, .int .u64 q2]) (w.heap.size) 24 #[.int .u64 p1, .int .u64 p2] := Sn.bk_row_other (Sn.bk_row HR0.out _) (by omega) _
  have hr1 : Sn.Bk ((v2.setRow (w.heap.size) #[.int .u64 p1, .int .u64 p2]).setRow (w.heap.size + 1) #[.int .u64 q1, .int .u64 q2]) (w.heap.size + 1) 24 #[.int .u64 q1, .int .u64 q2] := Sn.bk_row (Sn.bk_row_other HR1.out (by omega) _) _
  have hr2 : Sn.Bk ((v2.setRow (w.heap.size) #[.int .u64 p1, .int .u64 p2]).setRow (w.heap.size + 1) #[.int .u64 q1, .int .u64 q2]) (w.heap.size + 1 + 1) 24 #[.int .u64 0, .int .u64 0] := Sn.bk_row_other (Sn.bk_row_other HR2.out (by omega) _) (by omega) _
  clear HB HR0 HR1 HR2 H1C H2C
  generalize ((v2.setRow (w.heap.size) #[.int .u64 p1, .int .u64 p2]).setRow (w.heap.size + 1) #[.int .u64 q1, .int .u64 q2]) = v3 at *
  have HB := Lib.hid hB
  have HR0 := Lib.hid hr0
  have HR1 := Lib.hid hr1
  have HR2 := Lib.hid hr2
  clear hB hr0 hr1 hr2 HX HY v v2
  rename World => v
  have c0_0 := Sn.bk_c HR0.out 0
  have c0_1 := Sn.bk_c HR0.out 1
  have c1_0 := Sn.bk_c HR1.out 0
  have c1_1 := Sn.bk_c HR1.out 1
  simp only [List.getElem?_toArray, List.getElem?_cons_zero, List.getElem?_cons_succ] at c0_0 c0_1 c1_0 c1_1
  go_wp2_with fail
  clear c0_0 c0_1 c1_0 c1_1
  refine (isPoint_any (p1, p2) v).mono ?_
  rintro e v2 ⟨rfl, hb⟩
  rw [show decide ((p1, p2).1 = (p1, p2).2) = true from decide_eq_true HE1.out]
  have hr0 := Sn.bk_below HR0.out hb (Sn.bk_lt HR0.out)
  have hr1 := Sn.bk_below HR1.out hb (Sn.bk_lt HR1.out)
  have hr2 := Sn.bk_below HR2.out hb (Sn.bk_lt HR2.out)
  have hB := Sn.below_next HB.out hb HB.out.size
  clear HB HR0 HR1 HR2 hb
  have HB := Lib.hid hB
  have HR0 := Lib.hid hr0
  have HR1 := Lib.hid hr1
  have HR2 := Lib.hid hr2
  clear hB hr0 hr1 hr2
  clear v
  rename World => v
  have c0_0 := Sn.bk_c HR0.out 0
  have c0_1 := Sn.bk_c HR0.out 1
  have c1_0 := Sn.bk_c HR1.out 0
  have c1_1 := Sn.bk_c HR1.out 1
  simp only [List.getElem?_toArray, List.getElem?_cons_zero, List.getElem?_cons_succ] at c0_0 c0_1 c1_0 c1_1
  go_wp2_with fail
  clear c0_0 c0_1 c1_0 c1_1
  refine (isPoint_any (q1, q2) v).mono ?_
  rintro e v2 ⟨rfl, hb⟩
  rw [show decide ((q1, q2).1 = (q1, q2).2) = true from decide_eq_true HE2.out]
  have hr0 := Sn.bk_below HR0.out hb (Sn.bk_lt HR0.out)
  have hr1 := Sn.bk_below HR1.out hb (Sn.bk_lt HR1.out)
  have hr2 := Sn.bk_below HR2.out hb (Sn.bk_lt HR2.out)
  have hB := Sn.below_next HB.out hb HB.out.size
  clear HB HR0 HR1 HR2 hb
  have HB := Lib.hid hB
  have HR0 := Lib.hid hr0
  have HR1 := Lib.hid hr1
  have HR2 := Lib.hid hr2
  clear hB hr0 hr1 hr2
  clear v
  rename World => v
  have c0_0 := Sn.bk_c HR0.out 0
  have c0_1 := Sn.bk_c HR0.out 1
  have c1_0 := Sn.bk_c HR1.out 0
  have c1_1 := Sn.bk_c HR1.out 1
  simp only [List.getElem?_toArray, List.getElem?_cons_zero, List.getElem?_cons_succ] at c0_0 c0_1 c1_0 c1_1
  go_wp2_with fail
  clear c0_0 c0_1 c1_0 c1_1
  refine (HHA.out v).mono ?_
  rintro e v2 ⟨rfl, n, rfl⟩
  go_wp2_with fail
  refine (point_any t _).mono ?_
  rintro e v2 ⟨rfl, hb⟩
  have hb2 : Below v.heap.size v v2 := Sn.below_next (Sn.below_drewN (Below.refl v.heap.size v) n) hb (Nat.le_refl _)
  clear hb
  have hr2 := Sn.bk_below HR2.out hb2 (Sn.bk_lt HR2.out)
  have hB := Sn.below_next HB.out hb2 HB.out.size
  clear HB HR2 hb2
  have HB := Lib.hid hB
  have HR2 := Lib.hid hr2
  clear hB hr2
  have H1C := Lib.hid (show (#[.int .u64 t, .int .u64 t] : Array Value).all (·.oneCell') = true from by simp [Value.oneCell'])
  go_wp2_with (with_reducible refine Sn.store_sp (.tmp 8) (.tmp 29) (w.heap.size + 1 + 1) #[.int .u64 0, .int .u64 0] #[.int .u64 t, .int .u64 t] HR2.out rfl rfl rfl rfl rfl rfl H1C.out ?_)
  refine Sn.ret_sp (w.heap.size + 1 + 1) _ (Sn.bk_row HR2.out _) rfl rfl rfl rfl ?_
  exact ⟨rfl, Sn.below_set HB.out (by omega) _⟩

set_option maxHeartbeats 6400000 in
theorem apply_num (op a : Int) (x y : Sn.S) (w : World) (hop : op = 8 ∨ op = 9 ∨ op = 10 ∨ op = 11) (hn : ¬ ((Sn.rt a x).1 = (Sn.rt a x).2 ∧ (Sn.rt a y).1 = (Sn.rt a y).2)) (hpx : Sn.Ok a (Sn.rt a x)) (hpy : Sn.Ok a (Sn.rt a y)) :
    Calls Try.prog 9 #[.int .i64 op, .int .i64 a, Sn.v x, Sn.v y] w fun e w' => e = .returned (Sn.v (Sn.tab op a (Sn.rt a x) (Sn.rt a y))) ∧ Below w.heap.size w w' := by
  obtain ⟨x1, x2⟩ := x
  obtain ⟨y1, y2⟩ := y
  have HX := Lib.hid (fun W => right_any a (x1, x2) W)
  have HY := Lib.hid (fun W => right_any a (y1, y2) W)
  generalize Sn.rt a (x1, x2) = rx at *
  generalize Sn.rt a (y1, y2) = ry at *
  obtain ⟨p1, p2⟩ := rx
  obtain ⟨q1, q2⟩ := ry
  dsimp only at *
  obtain ⟨⟨r1, r2⟩, hR⟩ : ∃ R, Sn.tab op a (p1, p2) (q1, q2) = R := ⟨_, rfl⟩
  rw [hR]
  have HN := fun W => number_any op a (p1, p2) (q1, q2) hop hpx hpy W
  simp only [hR] at HN
  have HHN := Lib.hid HN
  clear HN hR
  by_cases E1 : p1 = p2
  · have E2 : ¬ q1 = q2 := fun h => hn ⟨E1, h⟩
    have HE1 := Lib.hid E1
    have HE2 := Lib.hid E2
    clear hn E1 E2
    show Calls Try.prog 9 #[.int .i64 op, .int .i64 a, .agg #[.int .u64 x1, .int .u64 x2], .agg #[.int .u64 y1, .int .u64 y2]] w _
    go_enter Try.func9, Try.ntmps9
    go_upto_region 1 with (fail)
    have hB : Below w.heap.size w (((w.alloc (.cells #[.int .u64 x1, .int .u64 x2] 24)).alloc (.cells #[.int .u64 y1, .int .u64 y2] 24)).alloc (.cells #[.int .u64 0, .int .u64 0] 24)) := ((((Below.refl _ _).alloc (Nat.le_refl _) _).alloc (by simp) _).alloc (by simp; omega) _)
    have hr0 : Sn.Bk (((w.alloc (.cells #[.int .u64 x1, .int .u64 x2] 24)).alloc (.cells #[.int .u64 y1, .int .u64 y2] 24)).alloc (.cells #[.int .u64 0, .int .u64 0] 24)) (w.heap.size) 24 #[.int .u64 x1, .int .u64 x2] := Sn.bk_old (Sn.bk_old (Sn.bk_new _ _ _) _) _
    have hr1 : Sn.Bk (((w.alloc (.cells #[.int .u64 x1, .int .u64 x2] 24)).alloc (.cells #[.int .u64 y1, .int .u64 y2] 24)).alloc (.cells #[.int .u64 0, .int .u64 0] 24)) (w.heap.size + 1) 24 #[.int .u64 y1, .int .u64 y2] := Sn.bk_old (Sn.bk_at (by simp)) _
    have hr2 : Sn.Bk (((w.alloc (.cells #[.int .u64 x1, .int .u64 x2] 24)).alloc (.cells #[.int .u64 y1, .int .u64 y2] 24)).alloc (.cells #[.int .u64 0, .int .u64 0] 24)) (w.heap.size + 1 + 1) 24 #[.int .u64 0, .int .u64 0] := Sn.bk_at (by simp)
    generalize (((w.alloc (.cells #[.int .u64 x1, .int .u64 x2] 24)).alloc (.cells #[.int .u64 y1, .int .u64 y2] 24)).alloc (.cells #[.int .u64 0, .int .u64 0] 24)) = v at *
    have HB := Lib.hid hB
    have HR0 := Lib.hid hr0
    have HR1 := Lib.hid hr1
    have HR2 := Lib.hid hr2
    clear hB hr0 hr1 hr2
    refine qc_tail (fun W => Below v.heap.size v W) 6 (by kernel_rfl) (by kernel_rfl) (Below.refl _ _).drew ?_
    simp only [List.take_succ_cons, List.take_zero, List.drop_succ_cons, List.drop_zero]
    refine qc_take (.int .i64 a) (by rfl) (fun W hW => ?_) ?_
    · (try dsimp only at hW)
      go_simp
    try simp only [List.getElem_toArray, List.getElem_cons_succ, List.getElem_cons_zero, Act.put, List.setIfInBounds_toArray, List.set_cons_zero, List.set_cons_succ]
    refine qc_take (.agg #[.int .u64 x1, .int .u64 x2]) (by rfl) (fun W hW => ?_) ?_
    · (try dsimp only at hW)
      have y := Sn.bk_below HR0.out hW (Sn.bk_lt HR0.out)
      have y0 := Sn.bk_c y 0
      have y1 := Sn.bk_c y 1
      simp only [List.getElem?_toArray, List.getElem?_cons_zero, List.getElem?_cons_succ] at y0 y1
      go_simp
    try simp only [List.getElem_toArray, List.getElem_cons_succ, List.getElem_cons_zero, Act.put, List.setIfInBounds_toArray, List.set_cons_zero, List.set_cons_succ]
    refine qc_take (.agg #[.int .u64 p1, .int .u64 p2]) (by rfl) (fun W hW => ?_) ?_
    · (try dsimp only at hW)
      go_simp
      exact (HX.out W).mono fun e w9 h9 => ⟨h9.1, Sn.below_next hW h9.2 hW.size⟩
    try simp only [List.getElem_toArray, List.getElem_cons_succ, List.getElem_cons_zero, Act.put, List.setIfInBounds_toArray, List.set_cons_zero, List.set_cons_succ]
    refine qc_take (.int .i64 a) (by rfl) (fun W hW => ?_) ?_
    · (try dsimp only at hW)
      go_simp
    try simp only [List.getElem_toArray, List.getElem_cons_succ, List.getElem_cons_zero, Act.put, List.setIfInBounds_toArray, List.set_cons_zero, List.set_cons_succ]
    refine qc_take (.agg #[.int .u64 y1, .int .u64 y2]) (by rfl) (fun W hW => ?_) ?_
    · (try dsimp only at hW)
      have y := Sn.bk_below HR1.out hW (Sn.bk_lt HR1.out)
      have y0 := Sn.bk_c y 0
      have y1 := Sn.bk_c y 1
      simp only [List.getElem?_toArray, List.getElem?_cons_zero, List.getElem?_cons_succ] at y0 y1
      go_simp
    try simp only [List.getElem_toArray, List.getElem_cons_succ, List.getElem_cons_zero, Act.put, List.setIfInBounds_toArray, List.set_cons_zero, List.set_cons_succ]
    refine qc_take (.agg #[.int .u64 q1, .int .u64 q2]) (by rfl) (fun W hW => ?_) ?_
    · (try dsimp only at hW)
      go_simp
      exact (HY.out W).mono fun e w9 h9 => ⟨h9.1, Sn.below_next hW h9.2 hW.size⟩
    try simp only [List.getElem_toArray, List.getElem_cons_succ, List.getElem_cons_zero, Act.put, List.setIfInBounds_toArray, List.set_cons_zero, List.set_cons_succ]
    refine wpQuiet_nil ?_
    intro v2 hb
    have hr0 := Sn.bk_below HR0.out hb (Sn.bk_lt HR0.out)
    have hr1 := Sn.bk_below HR1.out hb (Sn.bk_lt HR1.out)
    have hr2 := Sn.bk_below HR2.out hb (Sn.bk_lt HR2.out)
    have hB := Sn.below_next HB.out hb HB.out.size
    clear HB HR0 HR1 HR2 hb
    have HB := Lib.hid hB
    have HR0 := Lib.hid hr0
    have HR1 := Lib.hid hr1
    have HR2 := Lib.hid hr2
    clear hB hr0 hr1 hr2
    have H1C := Lib.hid (show (#[.int .u64 p1, .int .u64 p2] : Array Value).all (·.oneCell') = true by simp [Value.oneCell'])
    have H2C := Lib.hid (show (#[.int .u64 q1, .int .u64 q2] : Array Value).all (·.oneCell') = true by simp [Value.oneCell'])
    refine Sn.store_sp (.tmp 6) (.tmp 12) (w.heap.size) #[.int .u64 x1, .int .u64 x2] #[.int .u64 p1, .int .u64 p2] HR0.out rfl rfl rfl rfl rfl rfl H1C.out ?_
    refine Sn.store_sp (.tmp 7) (.tmp 15) (w.heap.size + 1) #[.int .u64 y1, .int .u64 y2] #[.int .u64 q1, .int .u64 q2] (Sn.bk_row_other HR1.out (by omega) _) rfl rfl rfl rfl rfl rfl H2C.out ?_
    have hB : Below w.heap.size w ((v2.setRow (w.heap.size) #[.int .u64 p1, .int .u64 p2]).setRow (w.heap.size + 1) #[.int .u64 q1, .int .u64 q2]) := Sn.below_set (Sn.below_set HB.out (by omega) _) (by omega) _
    have hr0 : Sn.Bk ((v2.setRow (w.heap.size) #[.int .u64 p1, .int .u64 p2]).setRow (w.heap.size + 1) #[.int .u64 q1, .int .u64 q2]) (w.heap.size) 24 #[.int .u64 p1, .int .u64 p2] := Sn.bk_row_other (Sn.bk_row HR0.out _) (by omega) _
    have hr1 : Sn.Bk ((v2.setRow (w.heap.size) #[.int .u64 p1, .int .u64 p2]).setRow (w.heap.size + 1) #[.int .u64 q1, .int .u64 q2]) (w.heap.size + 1) 24 #[.int .u64 q1, .int .u64 q2] := Sn.bk_row (Sn.bk_row_other HR1.out (by omega) _) _
    have hr2 : Sn.Bk ((v2.setRow (w.heap.size) #[.int .u64 p1, .int .u64 p2]).setRow (w.heap.size + 1) #[.int .u64 q1, .int .u64 q2]) (w.heap.size + 1 + 1) 24 #[.int .u64 0, .int .u64 0] := Sn.bk_row_other (Sn.bk_row_other HR2.out (by omega) _) (by omega) _
    clear HB HR0 HR1 HR2 H1C H2C
    generalize ((v2.setRow (w.heap.size) #[.int .u64 p1, .int .u64 p2]).setRow (w.heap.size + 1) #[.int .u64 q1, .int .u64 q2]) = v3 at *
    have HB := Lib.hid hB
    have HR0 := Lib.hid hr0
    have HR1 := Lib.hid hr1
    have HR2 := Lib.hid hr2
    clear hB hr0 hr1 hr2 HX HY v v2
    rename World => v
    have c0_0 := Sn.bk_c HR0.out 0
    have c0_1 := Sn.bk_c HR0.out 1
    have c1_0 := Sn.bk_c HR1.out 0
    have c1_1 := Sn.bk_c HR1.out 1
    simp only [List.getElem?_toArray, List.getElem?_cons_zero, List.getElem?_cons_succ] at c0_0 c0_1 c1_0 c1_1
    go_wp2_with fail
    clear c0_0 c0_1 c1_0 c1_1
    refine (isPoint_any (p1, p2) v).mono ?_
    rintro e v2 ⟨rfl, hb⟩
    rw [show decide ((p1, p2).1 = (p1, p2).2) = true from decide_eq_true HE1.out]
    have hr0 := Sn.bk_below HR0.out hb (Sn.bk_lt HR0.out)
    have hr1 := Sn.bk_below HR1.out hb (Sn.bk_lt HR1.out)
    have hr2 := Sn.bk_below HR2.out hb (Sn.bk_lt HR2.out)
    have hB := Sn.below_next HB.out hb HB.out.size
    clear HB HR0 HR1 HR2 hb
    have HB := Lib.hid hB
    have HR0 := Lib.hid hr0
    have HR1 := Lib.hid hr1
    have HR2 := Lib.hid hr2
    clear hB hr0 hr1 hr2
    clear v
    rename World => v
    have c0_0 := Sn.bk_c HR0.out 0
    have c0_1 := Sn.bk_c HR0.out 1
    have c1_0 := Sn.bk_c HR1.out 0
    have c1_1 := Sn.bk_c HR1.out 1
    simp only [List.getElem?_toArray, List.getElem?_cons_zero, List.getElem?_cons_succ] at c0_0 c0_1 c1_0 c1_1
    go_wp2_with fail
    clear c0_0 c0_1 c1_0 c1_1
    refine (isPoint_any (q1, q2) v).mono ?_
    rintro e v2 ⟨rfl, hb⟩
    rw [show decide ((q1, q2).1 = (q1, q2).2) = false from decide_eq_false HE2.out]
    have hr0 := Sn.bk_below HR0.out hb (Sn.bk_lt HR0.out)
    have hr1 := Sn.bk_below HR1.out hb (Sn.bk_lt HR1.out)
    have hr2 := Sn.bk_below HR2.out hb (Sn.bk_lt HR2.out)
    have hB := Sn.below_next HB.out hb HB.out.size
    clear HB HR0 HR1 HR2 hb
    have HB := Lib.hid hB
    have HR0 := Lib.hid hr0
    have HR1 := Lib.hid hr1
    have HR2 := Lib.hid hr2
    clear hB hr0 hr1 hr2
    clear v
    rename World => v
    have c0_0 := Sn.bk_c HR0.out 0
    have c0_1 := Sn.bk_c HR0.out 1
    have c1_0 := Sn.bk_c HR1.out 0
    have c1_1 := Sn.bk_c HR1.out 1
    simp only [List.getElem?_toArray, List.getElem?_cons_zero, List.getElem?_cons_succ] at c0_0 c0_1 c1_0 c1_1
    go_wp2_with fail
    all_goals
      clear c0_0 c0_1 c1_0 c1_1
      refine held_tail (S := fun W => Below v.heap.size v W) 9 (by kernel_rfl) (by simp) (Below.refl _ _).drew (fun hHeld => ?_)
      refine headS_take (i := 0) (v := .int .i64 op) rfl (by kernel_rfl) (fun _ _ _ h => h) (Or.inl ⟨by rfl, fun W hW => ?_⟩) hHeld ?_
      · (try dsimp only at hW)
        go_simp
      try simp only [List.getElem_toArray, List.getElem_cons_succ, List.getElem_cons_zero, Act.put, List.setIfInBounds_toArray, List.set_cons_zero, List.set_cons_succ]
      refine headS_take (i := 1) (v := .int .i64 a) rfl (by kernel_rfl) (fun _ _ _ h => h) (Or.inl ⟨by rfl, fun W hW => ?_⟩) hHeld ?_
      · (try dsimp only at hW)
        go_simp
      try simp only [List.getElem_toArray, List.getElem_cons_succ, List.getElem_cons_zero, Act.put, List.setIfInBounds_toArray, List.set_cons_zero, List.set_cons_succ]
      refine headS_take (i := 2) (v := .agg #[.int .u64 p1, .int .u64 p2]) rfl (by kernel_rfl) (fun _ _ _ h => h) (Or.inl ⟨by rfl, fun W hW => ?_⟩) hHeld ?_
      · (try dsimp only at hW)
        have y := Sn.bk_below HR0.out hW (Sn.bk_lt HR0.out)
        have y0 := Sn.bk_c y 0
        have y1 := Sn.bk_c y 1
        simp only [List.getElem?_toArray, List.getElem?_cons_zero, List.getElem?_cons_succ] at y0 y1
        go_simp
      try simp only [List.getElem_toArray, List.getElem_cons_succ, List.getElem_cons_zero, Act.put, List.setIfInBounds_toArray, List.set_cons_zero, List.set_cons_succ]
      refine headS_take (i := 3) (v := .agg #[.int .u64 q1, .int .u64 q2]) rfl (by kernel_rfl) (fun _ _ _ h => h) (Or.inl ⟨by rfl, fun W hW => ?_⟩) hHeld ?_
      · (try dsimp only at hW)
        have y := Sn.bk_below HR1.out hW (Sn.bk_lt HR1.out)
        have y0 := Sn.bk_c y 0
        have y1 := Sn.bk_c y 1
        simp only [List.getElem?_toArray, List.getElem?_cons_zero, List.getElem?_cons_succ] at y0 y1
        go_simp
      try simp only [List.getElem_toArray, List.getElem_cons_succ, List.getElem_cons_zero, Act.put, List.setIfInBounds_toArray, List.set_cons_zero, List.set_cons_succ]
      refine headS_take (i := 5) (v := .int .i64 a) rfl (by kernel_rfl) (fun _ _ _ h => h) (Or.inl ⟨by rfl, fun W hW => ?_⟩) hHeld ?_
      · (try dsimp only at hW)
        go_simp
      try simp only [List.getElem_toArray, List.getElem_cons_succ, List.getElem_cons_zero, Act.put, List.setIfInBounds_toArray, List.set_cons_zero, List.set_cons_succ]
      refine headS_take (i := 6) (v := .agg #[.int .u64 p1, .int .u64 p2]) rfl (by kernel_rfl) (fun _ _ _ h => h) (Or.inl ⟨by rfl, fun W hW => ?_⟩) hHeld ?_
      · (try dsimp only at hW)
        have y := Sn.bk_below HR0.out hW (Sn.bk_lt HR0.out)
        have y0 := Sn.bk_c y 0
        have y1 := Sn.bk_c y 1
        simp only [List.getElem?_toArray, List.getElem?_cons_zero, List.getElem?_cons_succ] at y0 y1
        go_simp
      try simp only [List.getElem_toArray, List.getElem_cons_succ, List.getElem_cons_zero, Act.put, List.setIfInBounds_toArray, List.set_cons_zero, List.set_cons_succ]
      refine headS_take (i := 7) (v := .agg #[.int .u64 q1, .int .u64 q2]) rfl (by kernel_rfl) (fun _ _ _ h => h) (Or.inl ⟨by rfl, fun W hW => ?_⟩) hHeld ?_
      · (try dsimp only at hW)
        have y := Sn.bk_below HR1.out hW (Sn.bk_lt HR1.out)
        have y0 := Sn.bk_c y 0
        have y1 := Sn.bk_c y 1
        simp only [List.getElem?_toArray, List.getElem?_cons_zero, List.getElem?_cons_succ] at y0 y1
        go_simp
      try simp only [List.getElem_toArray, List.getElem_cons_succ, List.getElem_cons_zero, Act.put, List.setIfInBounds_toArray, List.set_cons_zero, List.set_cons_succ]
      refine headS_ready (rs := [4]) (by kernel_rfl) (by simp) (by rfl) ?_
      refine AllS.cons rfl (fun K hK => ?_) AllS.nil
      go_simp
      refine (HHN.out v.drew).mono ?_
      rintro e v4 ⟨r, rfl, hF, hb⟩
      have hS : Below v.heap.size v v4 := Sn.below_next (Below.refl v.heap.size v).drew hb (Nat.le_refl _)
      refine hK.out _ _ hS (fun hHeld => ?_)
      clear hK K
      try simp only [List.getElem_toArray, List.getElem_cons_succ, List.getElem_cons_zero, Act.put, List.setIfInBounds_toArray, List.set_cons_zero, List.set_cons_succ]
      refine headS_ready (rs := [8]) (by kernel_rfl) (by simp) (by rfl) ?_
      refine AllS.cons rfl (fun K hK => ?_) AllS.nil
      go_simp
      refine (hF v4 (Below.refl _ _)).mono ?_
      rintro e v5 ⟨rfl, hb2⟩
      have hS2 : Below v.heap.size v v5 := Sn.below_next hS hb2 hS.size
      refine hK.out _ _ hS2 (fun hHeld => ?_)
      clear hK K hF hb hS hb2
      clear hHeld
      try simp only [List.getElem_toArray, List.getElem_cons_succ, List.getElem_cons_zero, Act.put, List.setIfInBounds_toArray, List.set_cons_zero, List.set_cons_succ]
      refine ⟨by kernel_rfl, ?_⟩
      simp only [List.drop_succ_cons, List.drop_zero]
      have hr2 := Sn.bk_below HR2.out hS2 (Sn.bk_lt HR2.out)
      have hB := Sn.below_next HB.out hS2 HB.out.size
      clear HB HR2 hS2
      have HB := Lib.hid hB
      have HR2 := Lib.hid hr2
      clear hB hr2
      have H1C := Lib.hid (show (#[.int .u64 r1, .int .u64 r2] : Array Value).all (·.oneCell') = true from by simp [Value.oneCell'])
      refine Sn.store_sp (.tmp 8) (.tmp 57) (w.heap.size + 1 + 1) #[.int .u64 0, .int .u64 0] #[.int .u64 r1, .int .u64 r2] HR2.out rfl rfl rfl rfl rfl rfl H1C.out ?_
      go_wp2_with fail
      refine Sn.ret_sp (w.heap.size + 1 + 1) _ (Sn.bk_row HR2.out _) rfl rfl rfl rfl ?_
      exact ⟨rfl, Sn.below_set HB.out (by omega) _⟩
  · have HE1 := Lib.hid E1
    clear hn E1
    show Calls Try.prog 9 #[.int .i64 op, .int .i64 a, .agg #[.int .u64 x1, .int .u64 x2], .agg #[.int .u64 y1, .int .u64 y2]] w _
    go_enter Try.func9, Try.ntmps9
    go_upto_region 1 with (fail)
    have hB : Below w.heap.size w (((w.alloc (.cells #[.int .u64 x1, .int .u64 x2] 24)).alloc (.cells #[.int .u64 y1, .int .u64 y2] 24)).alloc (.cells #[.int .u64 0, .int .u64 0] 24)) := ((((Below.refl _ _).alloc (Nat.le_refl _) _).alloc (by simp) _).alloc (by simp; omega) _)
    have hr0 : Sn.Bk (((w.alloc (.cells #[.int .u64 x1, .int .u64 x2] 24)).alloc (.cells #[.int .u64 y1, .int .u64 y2] 24)).alloc (.cells #[.int .u64 0, .int .u64 0] 24)) (w.heap.size) 24 #[.int .u64 x1, .int .u64 x2] := Sn.bk_old (Sn.bk_old (Sn.bk_new _ _ _) _) _
    have hr1 : Sn.Bk (((w.alloc (.cells #[.int .u64 x1, .int .u64 x2] 24)).alloc (.cells #[.int .u64 y1, .int .u64 y2] 24)).alloc (.cells #[.int .u64 0, .int .u64 0] 24)) (w.heap.size + 1) 24 #[.int .u64 y1, .int .u64 y2] := Sn.bk_old (Sn.bk_at (by simp)) _
    have hr2 : Sn.Bk (((w.alloc (.cells #[.int .u64 x1, .int .u64 x2] 24)).alloc (.cells #[.int .u64 y1, .int .u64 y2] 24)).alloc (.cells #[.int .u64 0, .int .u64 0] 24)) (w.heap.size + 1 + 1) 24 #[.int .u64 0, .int .u64 0] := Sn.bk_at (by simp)
    generalize (((w.alloc (.cells #[.int .u64 x1, .int .u64 x2] 24)).alloc (.cells #[.int .u64 y1, .int .u64 y2] 24)).alloc (.cells #[.int .u64 0, .int .u64 0] 24)) = v at *
    have HB := Lib.hid hB
    have HR0 := Lib.hid hr0
    have HR1 := Lib.hid hr1
    have HR2 := Lib.hid hr2
    clear hB hr0 hr1 hr2
    refine qc_tail (fun W => Below v.heap.size v W) 6 (by kernel_rfl) (by kernel_rfl) (Below.refl _ _).drew ?_
    simp only [List.take_succ_cons, List.take_zero, List.drop_succ_cons, List.drop_zero]
    refine qc_take (.int .i64 a) (by rfl) (fun W hW => ?_) ?_
    · (try dsimp only at hW)
      go_simp
    try simp only [List.getElem_toArray, List.getElem_cons_succ, List.getElem_cons_zero, Act.put, List.setIfInBounds_toArray, List.set_cons_zero, List.set_cons_succ]
    refine qc_take (.agg #[.int .u64 x1, .int .u64 x2]) (by rfl) (fun W hW => ?_) ?_
    · (try dsimp only at hW)
      have y := Sn.bk_below HR0.out hW (Sn.bk_lt HR0.out)
      have y0 := Sn.bk_c y 0
      have y1 := Sn.bk_c y 1
      simp only [List.getElem?_toArray, List.getElem?_cons_zero, List.getElem?_cons_succ] at y0 y1
      go_simp
    try simp only [List.getElem_toArray, List.getElem_cons_succ, List.getElem_cons_zero, Act.put, List.setIfInBounds_toArray, List.set_cons_zero, List.set_cons_succ]
    refine qc_take (.agg #[.int .u64 p1, .int .u64 p2]) (by rfl) (fun W hW => ?_) ?_
    · (try dsimp only at hW)
      go_simp
      exact (HX.out W).mono fun e w9 h9 => ⟨h9.1, Sn.below_next hW h9.2 hW.size⟩
    try simp only [List.getElem_toArray, List.getElem_cons_succ, List.getElem_cons_zero, Act.put, List.setIfInBounds_toArray, List.set_cons_zero, List.set_cons_succ]
    refine qc_take (.int .i64 a) (by rfl) (fun W hW => ?_) ?_
    · (try dsimp only at hW)
      go_simp
    try simp only [List.getElem_toArray, List.getElem_cons_succ, List.getElem_cons_zero, Act.put, List.setIfInBounds_toArray, List.set_cons_zero, List.set_cons_succ]
    refine qc_take (.agg #[.int .u64 y1, .int .u64 y2]) (by rfl) (fun W hW => ?_) ?_
    · (try dsimp only at hW)
      have y := Sn.bk_below HR1.out hW (Sn.bk_lt HR1.out)
      have y0 := Sn.bk_c y 0
      have y1 := Sn.bk_c y 1
      simp only [List.getElem?_toArray, List.getElem?_cons_zero, List.getElem?_cons_succ] at y0 y1
      go_simp
    try simp only [List.getElem_toArray, List.getElem_cons_succ, List.getElem_cons_zero, Act.put, List.setIfInBounds_toArray, List.set_cons_zero, List.set_cons_succ]
    refine qc_take (.agg #[.int .u64 q1, .int .u64 q2]) (by rfl) (fun W hW => ?_) ?_
    · (try dsimp only at hW)
      go_simp
      exact (HY.out W).mono fun e w9 h9 => ⟨h9.1, Sn.below_next hW h9.2 hW.size⟩
    try simp only [List.getElem_toArray, List.getElem_cons_succ, List.getElem_cons_zero, Act.put, List.setIfInBounds_toArray, List.set_cons_zero, List.set_cons_succ]
    refine wpQuiet_nil ?_
    intro v2 hb
    have hr0 := Sn.bk_below HR0.out hb (Sn.bk_lt HR0.out)
    have hr1 := Sn.bk_below HR1.out hb (Sn.bk_lt HR1.out)
    have hr2 := Sn.bk_below HR2.out hb (Sn.bk_lt HR2.out)
    have hB := Sn.below_next HB.out hb HB.out.size
    clear HB HR0 HR1 HR2 hb
    have HB := Lib.hid hB
    have HR0 := Lib.hid hr0
    have HR1 := Lib.hid hr1
    have HR2 := Lib.hid hr2
    clear hB hr0 hr1 hr2
    have H1C := Lib.hid (show (#[.int .u64 p1, .int .u64 p2] : Array Value).all (·.oneCell') = true by simp [Value.oneCell'])
    have H2C := Lib.hid (show (#[.int .u64 q1, .int .u64 q2] : Array Value).all (·.oneCell') = true by simp [Value.oneCell'])
    refine Sn.store_sp (.tmp 6) (.tmp 12) (w.heap.size) #[.int .u64 x1, .int .u64 x2] #[.int .u64 p1, .int .u64 p2] HR0.out rfl rfl rfl rfl rfl rfl H1C.out ?_
    refine Sn.store_sp (.tmp 7) (.tmp 15) (w.heap.size + 1) #[.int .u64 y1, .int .u64 y2] #[.int .u64 q1, .int .u64 q2] (Sn.bk_row_other HR1.out (by omega) _) rfl rfl rfl rfl rfl rfl H2C.out ?_
    have hB : Below w.heap.size w ((v2.setRow (w.heap.size) #[.int .u64 p1, .int .u64 p2]).setRow (w.heap.size + 1) #[.int .u64 q1, .int .u64 q2]) := Sn.below_set (Sn.below_set HB.out (by omega) _) (by omega) _
    have hr0 : Sn.Bk ((v2.setRow (w.heap.size) #[.int .u64 p1, .int .u64 p2]).setRow (w.heap.size + 1) #[.int .u64 q1, .int .u64 q2]) (w.heap.size) 24 #[.int .u64 p1, .int .u64 p2] := Sn.bk_row_other (Sn.bk_row HR0.out _) (by omega) _
    have hr1 : Sn.Bk ((v2.setRow (w.heap.size) #[.int .u64 p1, .int .u64 p2]).setRow (w.heap.size + 1) #[.int .u64 q1, .int .u64 q2]) (w.heap.size + 1) 24 #[.int .u64 q1, .int .u64 q2] := Sn.bk_row (Sn.bk_row_other HR1.out (by omega) _) _
    have hr2 : Sn.Bk ((v2.setRow (w.heap.size) #[.int .u64 p1, .int .u64 p2]).setRow (w.heap.size + 1) #[.int .u64 q1, .int .u64 q2]) (w.heap.size + 1 + 1) 24 #[.int .u64 0, .int .u64 0] := Sn.bk_row_other (Sn.bk_row_other HR2.out (by omega) _) (by omega) _
    clear HB HR0 HR1 HR2 H1C H2C
    generalize ((v2.setRow (w.heap.size) #[.int .u64 p1, .int .u64 p2]).setRow (w.heap.size + 1) #[.int .u64 q1, .int .u64 q2]) = v3 at *
    have HB := Lib.hid hB
    have HR0 := Lib.hid hr0
    have HR1 := Lib.hid hr1
    have HR2 := Lib.hid hr2
    clear hB hr0 hr1 hr2 HX HY v v2
    rename World => v
    have c0_0 := Sn.bk_c HR0.out 0
    have c0_1 := Sn.bk_c HR0.out 1
    have c1_0 := Sn.bk_c HR1.out 0
    have c1_1 := Sn.bk_c HR1.out 1
    simp only [List.getElem?_toArray, List.getElem?_cons_zero, List.getElem?_cons_succ] at c0_0 c0_1 c1_0 c1_1
    go_wp2_with fail
    clear c0_0 c0_1 c1_0 c1_1
    refine (isPoint_any (p1, p2) v).mono ?_
    rintro e v2 ⟨rfl, hb⟩
    rw [show decide ((p1, p2).1 = (p1, p2).2) = false from decide_eq_false HE1.out]
    have hr0 := Sn.bk_below HR0.out hb (Sn.bk_lt HR0.out)
    have hr1 := Sn.bk_below HR1.out hb (Sn.bk_lt HR1.out)
    have hr2 := Sn.bk_below HR2.out hb (Sn.bk_lt HR2.out)
    have hB := Sn.below_next HB.out hb HB.out.size
    clear HB HR0 HR1 HR2 hb
    have HB := Lib.hid hB
    have HR0 := Lib.hid hr0
    have HR1 := Lib.hid hr1
    have HR2 := Lib.hid hr2
    clear hB hr0 hr1 hr2
    clear v
    rename World => v
    have c0_0 := Sn.bk_c HR0.out 0
    have c0_1 := Sn.bk_c HR0.out 1
    have c1_0 := Sn.bk_c HR1.out 0
    have c1_1 := Sn.bk_c HR1.out 1
    simp only [List.getElem?_toArray, List.getElem?_cons_zero, List.getElem?_cons_succ] at c0_0 c0_1 c1_0 c1_1
    go_wp2_with fail
    all_goals
      clear c0_0 c0_1 c1_0 c1_1
      refine held_tail (S := fun W => Below v.heap.size v W) 9 (by kernel_rfl) (by simp) (Below.refl _ _).drew (fun hHeld => ?_)
      refine headS_take (i := 0) (v := .int .i64 op) rfl (by kernel_rfl) (fun _ _ _ h => h) (Or.inl ⟨by rfl, fun W hW => ?_⟩) hHeld ?_
      · (try dsimp only at hW)
        go_simp
      try simp only [List.getElem_toArray, List.getElem_cons_succ, List.getElem_cons_zero, Act.put, List.setIfInBounds_toArray, List.set_cons_zero, List.set_cons_succ]
      refine headS_take (i := 1) (v := .int .i64 a) rfl (by kernel_rfl) (fun _ _ _ h => h) (Or.inl ⟨by rfl, fun W hW => ?_⟩) hHeld ?_
      · (try dsimp only at hW)
        go_simp
      try simp only [List.getElem_toArray, List.getElem_cons_succ, List.getElem_cons_zero, Act.put, List.setIfInBounds_toArray, List.set_cons_zero, List.set_cons_succ]
      refine headS_take (i := 2) (v := .agg #[.int .u64 p1, .int .u64 p2]) rfl (by kernel_rfl) (fun _ _ _ h => h) (Or.inl ⟨by rfl, fun W hW => ?_⟩) hHeld ?_
      · (try dsimp only at hW)
        have y := Sn.bk_below HR0.out hW (Sn.bk_lt HR0.out)
        have y0 := Sn.bk_c y 0
        have y1 := Sn.bk_c y 1
        simp only [List.getElem?_toArray, List.getElem?_cons_zero, List.getElem?_cons_succ] at y0 y1
        go_simp
      try simp only [List.getElem_toArray, List.getElem_cons_succ, List.getElem_cons_zero, Act.put, List.setIfInBounds_toArray, List.set_cons_zero, List.set_cons_succ]
      refine headS_take (i := 3) (v := .agg #[.int .u64 q1, .int .u64 q2]) rfl (by kernel_rfl) (fun _ _ _ h => h) (Or.inl ⟨by rfl, fun W hW => ?_⟩) hHeld ?_
      · (try dsimp only at hW)
        have y := Sn.bk_below HR1.out hW (Sn.bk_lt HR1.out)
        have y0 := Sn.bk_c y 0
        have y1 := Sn.bk_c y 1
        simp only [List.getElem?_toArray, List.getElem?_cons_zero, List.getElem?_cons_succ] at y0 y1
        go_simp
      try simp only [List.getElem_toArray, List.getElem_cons_succ, List.getElem_cons_zero, Act.put, List.setIfInBounds_toArray, List.set_cons_zero, List.set_cons_succ]
      refine headS_take (i := 5) (v := .int .i64 a) rfl (by kernel_rfl) (fun _ _ _ h => h) (Or.inl ⟨by rfl, fun W hW => ?_⟩) hHeld ?_
      · (try dsimp only at hW)
        go_simp
      try simp only [List.getElem_toArray, List.getElem_cons_succ, List.getElem_cons_zero, Act.put, List.setIfInBounds_toArray, List.set_cons_zero, List.set_cons_succ]
      refine headS_take (i := 6) (v := .agg #[.int .u64 p1, .int .u64 p2]) rfl (by kernel_rfl) (fun _ _ _ h => h) (Or.inl ⟨by rfl, fun W hW => ?_⟩) hHeld ?_
      · (try dsimp only at hW)
        have y := Sn.bk_below HR0.out hW (Sn.bk_lt HR0.out)
        have y0 := Sn.bk_c y 0
        have y1 := Sn.bk_c y 1
        simp only [List.getElem?_toArray, List.getElem?_cons_zero, List.getElem?_cons_succ] at y0 y1
        go_simp
      try simp only [List.getElem_toArray, List.getElem_cons_succ, List.getElem_cons_zero, Act.put, List.setIfInBounds_toArray, List.set_cons_zero, List.set_cons_succ]
      refine headS_take (i := 7) (v := .agg #[.int .u64 q1, .int .u64 q2]) rfl (by kernel_rfl) (fun _ _ _ h => h) (Or.inl ⟨by rfl, fun W hW => ?_⟩) hHeld ?_
      · (try dsimp only at hW)
        have y := Sn.bk_below HR1.out hW (Sn.bk_lt HR1.out)
        have y0 := Sn.bk_c y 0
        have y1 := Sn.bk_c y 1
        simp only [List.getElem?_toArray, List.getElem?_cons_zero, List.getElem?_cons_succ] at y0 y1
        go_simp
      try simp only [List.getElem_toArray, List.getElem_cons_succ, List.getElem_cons_zero, Act.put, List.setIfInBounds_toArray, List.set_cons_zero, List.set_cons_succ]
      refine headS_ready (rs := [4]) (by kernel_rfl) (by simp) (by rfl) ?_
      refine AllS.cons rfl (fun K hK => ?_) AllS.nil
      go_simp
      refine (HHN.out v.drew).mono ?_
      rintro e v4 ⟨r, rfl, hF, hb⟩
      have hS : Below v.heap.size v v4 := Sn.below_next (Below.refl v.heap.size v).drew hb (Nat.le_refl _)
      refine hK.out _ _ hS (fun hHeld => ?_)
      clear hK K
      try simp only [List.getElem_toArray, List.getElem_cons_succ, List.getElem_cons_zero, Act.put, List.setIfInBounds_toArray, List.set_cons_zero, List.set_cons_succ]
      refine headS_ready (rs := [8]) (by kernel_rfl) (by simp) (by rfl) ?_
      refine AllS.cons rfl (fun K hK => ?_) AllS.nil
      go_simp
      refine (hF v4 (Below.refl _ _)).mono ?_
      rintro e v5 ⟨rfl, hb2⟩
      have hS2 : Below v.heap.size v v5 := Sn.below_next hS hb2 hS.size
      refine hK.out _ _ hS2 (fun hHeld => ?_)
      clear hK K hF hb hS hb2
      clear hHeld
      try simp only [List.getElem_toArray, List.getElem_cons_succ, List.getElem_cons_zero, Act.put, List.setIfInBounds_toArray, List.set_cons_zero, List.set_cons_succ]
      refine ⟨by kernel_rfl, ?_⟩
      simp only [List.drop_succ_cons, List.drop_zero]
      have hr2 := Sn.bk_below HR2.out hS2 (Sn.bk_lt HR2.out)
      have hB := Sn.below_next HB.out hS2 HB.out.size
      clear HB HR2 hS2
      have HB := Lib.hid hB
      have HR2 := Lib.hid hr2
      clear hB hr2
      have H1C := Lib.hid (show (#[.int .u64 r1, .int .u64 r2] : Array Value).all (·.oneCell') = true from by simp [Value.oneCell'])
      refine Sn.store_sp (.tmp 8) (.tmp 57) (w.heap.size + 1 + 1) #[.int .u64 0, .int .u64 0] #[.int .u64 r1, .int .u64 r2] HR2.out rfl rfl rfl rfl rfl rfl H1C.out ?_
      go_wp2_with fail
      refine Sn.ret_sp (w.heap.size + 1 + 1) _ (Sn.bk_row HR2.out _) rfl rfl rfl rfl ?_
      exact ⟨rfl, Sn.below_set HB.out (by omega) _⟩


end Go.Proofs.Ytbjckcjfambpoaa
