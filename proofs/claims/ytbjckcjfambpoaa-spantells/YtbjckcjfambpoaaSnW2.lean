/-
  Layer 11: Has, Meet, Join, and whether a span is a point or in a half.
-/
import Derived.Test.YtbjckcjfambpoaaSnW1
import Derived.Test.YtbjckcjfambpoaaQcT
import Derived.Deep.Cut
namespace Go.Proofs.Ytbjckcjfambpoaa
set_option linter.unusedSimpArgs false
set_option linter.unusedVariables false
open Go.RowKit Go.Maps
set_option maxRecDepth 100000

theorem Sn.bk_row {W : World} {g : Nat} {t : TypeId} {old : Array Value} (h : Sn.Bk W g t old) (cs : Array Value) : Sn.Bk (W.setRow g cs) g t cs := setRow_heap W g _ _ _ _ h
theorem Sn.bk_row_other {W : World} {g k : Nat} {t : TypeId} {cs : Array Value} (h : Sn.Bk W g t cs) (hk : g ≠ k) (c : Array Value) : Sn.Bk (W.setRow k c) g t cs := (setRow_other _ _ _ _ hk).trans h

set_option maxHeartbeats 1600000 in
theorem join_any (a : Int) (x y : Sn.S) (w : World) :
    Calls Try.prog 17 #[.int .i64 a, Sn.v x, Sn.v y] w fun e w' => e = .returned (Sn.v (Sn.join a x y)) ∧ Below w.heap.size w w' := by
  unfold Sn.join
  obtain ⟨x1, x2⟩ := x
  obtain ⟨y1, y2⟩ := y
  have HX := Lib.hid (fun W => right_any a (x1, x2) W)
  have HY := Lib.hid (fun W => right_any a (y1, y2) W)
  generalize Sn.rt a (x1, x2) = rx at *
  generalize Sn.rt a (y1, y2) = ry at *
  obtain ⟨p1, p2⟩ := rx
  obtain ⟨q1, q2⟩ := ry
  show Calls Try.prog 17 #[.int .i64 a, .agg #[.int .u64 x1, .int .u64 x2], .agg #[.int .u64 y1, .int .u64 y2]] w _
  go_enter Try.func17, Try.ntmps17
  go_upto_region 1 with (fail)
  have hB : Below w.heap.size w (((w.alloc (.cells #[.int .u64 x1, .int .u64 x2] 24)).alloc (.cells #[.int .u64 y1, .int .u64 y2] 24)).alloc (.cells #[.int .u64 0, .int .u64 0] 24)) := ((((Below.refl _ _).alloc (Nat.le_refl _) _).alloc (by simp) _).alloc (by simp; omega) _)
  have hr0 : Sn.Bk (((w.alloc (.cells #[.int .u64 x1, .int .u64 x2] 24)).alloc (.cells #[.int .u64 y1, .int .u64 y2] 24)).alloc (.cells #[.int .u64 0, .int .u64 0] 24)) (w.heap.size) 24 #[.int .u64 x1, .int .u64 x2] := Sn.bk_old (Sn.bk_old (Sn.bk_new _ _ _) _) _
  have hr1 : Sn.Bk (((w.alloc (.cells #[.int .u64 x1, .int .u64 x2] 24)).alloc (.cells #[.int .u64 y1, .int .u64 y2] 24)).alloc (.cells #[.int .u64 0, .int .u64 0] 24)) (w.heap.size + 1) 24 #[.int .u64 y1, .int .u64 y2] := Sn.bk_old (Sn.bk_at (by simp)) _
  have hr2 : Sn.Bk (((w.alloc (.cells #[.int .u64 x1, .int .u64 x2] 24)).alloc (.cells #[.int .u64 y1, .int .u64 y2] 24)).alloc (.cells #[.int .u64 0, .int .u64 0] 24)) (w.heap.size + 1 + 1) 24 #[.int .u64 0, .int .u64 0] := Sn.bk_at (by simp)
  generalize (((w.alloc (.cells #[.int .u64 x1, .int .u64 x2] 24)).alloc (.cells #[.int .u64 y1, .int .u64 y2] 24)).alloc (.cells #[.int .u64 0, .int .u64 0] 24)) = v at *
  have HB := Lib.hid hB
  have HR0 := Lib.hid hr0
  have HR1 := Lib.hid hr1
  have HR2 := Lib.hid hr2
  clear hB hr0 hr1 hr2
  refine qc_tail (fun W => Below v.heap.size v W) 6 (by kernel_rfl) (by kernel_rfl) (Below.refl _ _).drew ?_
  simp only [List.take_succ_cons, List.take_zero, List.drop_succ_cons, List.drop_zero]
  refine qc_take (.int .i64 a) (by rfl) (fun W hW => ?_) ?_
  · (try dsimp only at hW)
    go_simp
  try simp only [List.getElem_toArray, List.getElem_cons_succ, List.getElem_cons_zero, Act.put, List.setIfInBounds_toArray, List.set_cons_zero, List.set_cons_succ]
  refine qc_take (.agg #[.int .u64 x1, .int .u64 x2]) (by rfl) (fun W hW => ?_) ?_
  · (try dsimp only at hW)
    have y := Sn.bk_below HR0.out hW (Sn.bk_lt HR0.out)
    have y0 := Sn.bk_c y 0
    have y1 := Sn.bk_c y 1
    simp only [List.getElem?_toArray, List.getElem?_cons_zero, List.getElem?_cons_succ] at y0 y1
    go_simp
  try simp only [List.getElem_toArray, List.getElem_cons_succ, List.getElem_cons_zero, Act.put, List.setIfInBounds_toArray, List.set_cons_zero, List.set_cons_succ]
  refine qc_take (.agg #[.int .u64 p1, .int .u64 p2]) (by rfl) (fun W hW => ?_) ?_
  · (try dsimp only at hW)
    go_simp
    exact (HX.out W).mono fun e w9 h9 => ⟨h9.1, Sn.below_next hW h9.2 hW.size⟩
  try simp only [List.getElem_toArray, List.getElem_cons_succ, List.getElem_cons_zero, Act.put, List.setIfInBounds_toArray, List.set_cons_zero, List.set_cons_succ]
  refine qc_take (.int .i64 a) (by rfl) (fun W hW => ?_) ?_
  · (try dsimp only at hW)
    go_simp
  try simp only [List.getElem_toArray, List.getElem_cons_succ, List.getElem_cons_zero, Act.put, List.setIfInBounds_toArray, List.set_cons_zero, List.set_cons_succ]
  refine qc_take (.agg #[.int .u64 y1, .int .u64 y2]) (by rfl) (fun W hW => ?_) ?_
  · (try dsimp only at hW)
    have y := Sn.bk_below HR1.out hW (Sn.bk_lt HR1.out)
    have y0 := Sn.bk_c y 0
    have y1 := Sn.bk_c y 1
    simp only [List.getElem?_toArray, List.getElem?_cons_zero, List.getElem?_cons_succ] at y0 y1
    go_simp
  try simp only [List.getElem_toArray, List.getElem_cons_succ, List.getElem_cons_zero, Act.put, List.setIfInBounds_toArray, List.set_cons_zero, List.set_cons_succ]
  refine qc_take (.agg #[.int .u64 q1, .int .u64 q2]) (by rfl) (fun W hW => ?_) ?_
  · (try dsimp only at hW)
    go_simp
    exact (HY.out W).mono fun e w9 h9 => ⟨h9.1, Sn.below_next hW h9.2 hW.size⟩
  try simp only [List.getElem_toArray, List.getElem_cons_succ, List.getElem_cons_zero, Act.put, List.setIfInBounds_toArray, List.set_cons_zero, List.set_cons_succ]
  refine wpQuiet_nil ?_
  intro v2 hb
  have hr0 := Sn.bk_below HR0.out hb (Sn.bk_lt HR0.out)
  have hr1 := Sn.bk_below HR1.out hb (Sn.bk_lt HR1.out)
  have hr2 := Sn.bk_below HR2.out hb (Sn.bk_lt HR2.out)
  have hB := Sn.below_next HB.out hb HB.out.size
  clear HB HR0 HR1 HR2 hb
  have HB := Lib.hid hB
  have HR0 := Lib.hid hr0
  have HR1 := Lib.hid hr1
  have HR2 := Lib.hid hr2
  clear hB hr0 hr1 hr2
  have H1C := Lib.hid (show (#[.int .u64 p1, .int .u64 p2] : Array Value).all (·.oneCell') = true by simp [Value.oneCell'])
  have H2C := Lib.hid (show (#[.int .u64 q1, .int .u64 q2] : Array Value).all (·.oneCell') = true by simp [Value.oneCell'])
  refine Sn.store_sp (.tmp 4) (.tmp 9) (w.heap.size) #[.int .u64 x1, .int .u64 x2] #[.int .u64 p1, .int .u64 p2] HR0.out rfl rfl rfl rfl rfl rfl H1C.out ?_
  refine Sn.store_sp (.tmp 5) (.tmp 12) (w.heap.size + 1) #[.int .u64 y1, .int .u64 y2] #[.int .u64 q1, .int .u64 q2] (Sn.bk_row_other HR1.out (by omega) _) rfl rfl rfl rfl rfl rfl H2C.out ?_
  have hB : Below w.heap.size w ((v2.setRow (w.heap.size) #[.int .u64 p1, .int .u64 p2]).setRow (w.heap.size + 1) #[.int .u64 q1, .int .u64 q2]) := Sn.below_set (Sn.below_set HB.out (by omega) _) (by omega) _
  have hr0 : Sn.Bk ((v2.setRow (w.heap.size) #[.int .u64 p1, .int .u64 p2]).setRow (w.heap.size + 1) #[.int .u64 q1, .int .u64 q2]) (w.heap.size) 24 #[.int .u64 p1, .int .u64 p2] := Sn.bk_row_other (Sn.bk_row HR0.out _) (by omega) _
  have hr1 : Sn.Bk ((v2.setRow (w.heap.size) #[.int .u64 p1, .int .u64 p2]).setRow (w.heap.size + 1) #[.int .u64 q1, .int .u64 q2]) (w.heap.size + 1) 24 #[.int .u64 q1, .int .u64 q2] := Sn.bk_row (Sn.bk_row_other HR1.out (by omega) _) _
  have hr2 : Sn.Bk ((v2.setRow (w.heap.size) #[.int .u64 p1, .int .u64 p2]).setRow (w.heap.size + 1) #[.int .u64 q1, .int .u64 q2]) (w.heap.size + 1 + 1) 24 #[.int .u64 0, .int .u64 0] := Sn.bk_row_other (Sn.bk_row_other HR2.out (by omega) _) (by omega) _
  clear HB HR0 HR1 HR2 H1C H2C
  generalize ((v2.setRow (w.heap.size) #[.int .u64 p1, .int .u64 p2]).setRow (w.heap.size + 1) #[.int .u64 q1, .int .u64 q2]) = v3 at *
  have HB := Lib.hid hB
  have HR0 := Lib.hid hr0
  have HR1 := Lib.hid hr1
  have HR2 := Lib.hid hr2
  clear hB hr0 hr1 hr2 HX HY v v2
  have c0_0 := Sn.bk_c HR0.out 0
  have c0_1 := Sn.bk_c HR0.out 1
  have c1_0 := Sn.bk_c HR1.out 0
  have c1_1 := Sn.bk_c HR1.out 1
  simp only [List.getElem?_toArray, List.getElem?_cons_zero, List.getElem?_cons_succ] at c0_0 c0_1 c1_0 c1_1
  go_wp2_with (with_reducible refine Sn.store_sp (.tmp 6) (.tmp 23) (w.heap.size + 1 + 1) #[.int .u64 0, .int .u64 0] _ HR2.out rfl rfl rfl rfl rfl rfl (by simp [Value.oneCell']) ?_)
  all_goals
    refine Sn.ret_sp (w.heap.size + 1 + 1) _ (Sn.bk_row HR2.out _) rfl rfl rfl rfl ?_
    exact ⟨Sn.ret_q (a := (_, _)) (Prod.ext (by dsimp only; omega) (by dsimp only; omega)), Sn.below_set HB.out (by omega) _⟩

set_option maxHeartbeats 1600000 in
theorem has_any (a : Int) (s : Sn.S) (n : Int) (w : World) :
    Calls Try.prog 13 #[.int .i64 a, Sn.v s, .int .u64 n] w fun e w' => e = .returned (.bool (Sn.has a s n)) ∧ Below w.heap.size w w' := by
  obtain ⟨x1, x2⟩ := s
  unfold Sn.has
  have HX := Lib.hid (fun W => right_any a (x1, x2) W)
  generalize Sn.rt a (x1, x2) = rx at *
  obtain ⟨p1, p2⟩ := rx
  show Calls Try.prog 13 #[.int .i64 a, .agg #[.int .u64 x1, .int .u64 x2], .int .u64 n] w _
  go_enter Try.func13, Try.ntmps13
  go_upto_region 1 with (fail)
  have hB : Below w.heap.size w (w.alloc (.cells #[.int .u64 x1, .int .u64 x2] 24)) := ((Below.refl _ _).alloc (Nat.le_refl _) _)
  have hr0 : Sn.Bk (w.alloc (.cells #[.int .u64 x1, .int .u64 x2] 24)) (w.heap.size) 24 #[.int .u64 x1, .int .u64 x2] := Sn.bk_new _ _ _
  generalize (w.alloc (.cells #[.int .u64 x1, .int .u64 x2] 24)) = v at *
  have HB := Lib.hid hB
  have HR0 := Lib.hid hr0
  clear hB hr0
  go_wp2_with (with_reducible refine Sn.load_sp (.tmp 4) (w.heap.size) #[.int .u64 x1, .int .u64 x2] HR0.out rfl rfl rfl rfl ?_)
  refine (HX.out v).mono ?_
  rintro e v2 ⟨rfl, hb⟩
  have hr0 := Sn.bk_below HR0.out hb (Sn.bk_lt HR0.out)
  have hB := Sn.below_next HB.out hb HB.out.size
  clear HB HR0 hb
  have HB := Lib.hid hB
  have HR0 := Lib.hid hr0
  clear hB hr0
  have H1C := Lib.hid (show (#[.int .u64 p1, .int .u64 p2] : Array Value).all (·.oneCell') = true by simp [Value.oneCell'])
  have c0 := Sn.bk_c (Sn.bk_row HR0.out #[.int .u64 p1, .int .u64 p2]) 0
  have c1 := Sn.bk_c (Sn.bk_row HR0.out #[.int .u64 p1, .int .u64 p2]) 1
  simp only [List.getElem?_toArray, List.getElem?_cons_zero, List.getElem?_cons_succ] at c0 c1
  go_wp2_with (first | (go_at_call 20; refine (cut_any a n v2).mono ?_; rintro e w9 ⟨rfl, rfl⟩) | (with_reducible refine Sn.store_sp (.tmp 4) (.tmp 9) (w.heap.size) #[.int .u64 x1, .int .u64 x2] #[.int .u64 p1, .int .u64 p2] HR0.out rfl rfl rfl rfl rfl rfl H1C.out ?_))
  all_goals
    go_ret
    refine ⟨Sn.ret_b ?_, Sn.below_set HB.out (by omega) _⟩
    simp [*] <;> intros <;> omega

set_option maxHeartbeats 1600000 in
theorem isPoint_any (s : Sn.S) (w : World) :
    Calls Try.prog 22 #[Sn.v s] w fun e w' => e = .returned (.bool (decide (s.1 = s.2))) ∧ Below w.heap.size w w' := by
  obtain ⟨x1, x2⟩ := s
  show Calls Try.prog 22 #[.agg #[.int .u64 x1, .int .u64 x2]] w _
  go_enter Try.func22, Try.ntmps22
  go_upto_region 1 with (fail)
  have hB : Below w.heap.size w (w.alloc (.cells #[.int .u64 x1, .int .u64 x2] 24)) := ((Below.refl _ _).alloc (Nat.le_refl _) _)
  have hr0 : Sn.Bk (w.alloc (.cells #[.int .u64 x1, .int .u64 x2] 24)) (w.heap.size) 24 #[.int .u64 x1, .int .u64 x2] := Sn.bk_new _ _ _
  generalize (w.alloc (.cells #[.int .u64 x1, .int .u64 x2] 24)) = v at *
  have HB := Lib.hid hB
  have HR0 := Lib.hid hr0
  clear hB hr0
  refine qc_all (fun W => Below v.heap.size v W) (by kernel_rfl) (by kernel_rfl) (Below.refl _ _).drew ?_
  refine qc_take (.agg #[.int .u64 x1, .int .u64 x2]) (by rfl) (fun W hW => ?_) ?_
  · (try dsimp only at hW)
    have y := Sn.bk_below HR0.out hW (Sn.bk_lt HR0.out)
    have y0 := Sn.bk_c y 0
    have y1 := Sn.bk_c y 1
    simp only [List.getElem?_toArray, List.getElem?_cons_zero, List.getElem?_cons_succ] at y0 y1
    go_simp
  try simp only [List.getElem_toArray, List.getElem_cons_succ, List.getElem_cons_zero, Act.put, List.setIfInBounds_toArray, List.set_cons_zero, List.set_cons_succ]
  refine qc_take (.pointer (some ⟨w.heap.size, 0, none⟩)) (by rfl) (fun W hW => ?_) ?_
  · (try dsimp only at hW)
    go_simp
  try simp only [List.getElem_toArray, List.getElem_cons_succ, List.getElem_cons_zero, Act.put, List.setIfInBounds_toArray, List.set_cons_zero, List.set_cons_succ]
  refine qc_take (.int .u64 x1) (by rfl) (fun W hW => ?_) ?_
  · (try dsimp only at hW)
    have y := Sn.bk_below HR0.out hW (Sn.bk_lt HR0.out)
    have y0 := Sn.bk_c y 0
    have y1 := Sn.bk_c y 1
    simp only [List.getElem?_toArray, List.getElem?_cons_zero, List.getElem?_cons_succ] at y0 y1
    go_simp
  try simp only [List.getElem_toArray, List.getElem_cons_succ, List.getElem_cons_zero, Act.put, List.setIfInBounds_toArray, List.set_cons_zero, List.set_cons_succ]
  refine qc_take (.agg #[.int .u64 x1, .int .u64 x1]) (by rfl) (fun W hW => ?_) ?_
  · (try dsimp only at hW)
    go_simp
    exact (point_any x1 W).mono fun e w9 h9 => ⟨h9.1, Sn.below_next hW h9.2 hW.size⟩
  try simp only [List.getElem_toArray, List.getElem_cons_succ, List.getElem_cons_zero, Act.put, List.setIfInBounds_toArray, List.set_cons_zero, List.set_cons_succ]
  refine qc_take (.bool (decide (x1 = x2))) (by rfl) (fun W hW => ?_) ?_
  · (try dsimp only at hW)
    go_simp
    rcases Decidable.em (x1 = x2) with h | h
    · subst h; simp
    · have h2 : ¬ x2 = x1 := fun e => h e.symm
      simp [h, h2]
  try simp only [List.getElem_toArray, List.getElem_cons_succ, List.getElem_cons_zero, Act.put, List.setIfInBounds_toArray, List.set_cons_zero, List.set_cons_succ]
  refine qc_take (.bool (decide (x1 = x2))) (by rfl) (fun W hW => ?_) ?_
  · (try dsimp only at hW)
    go_simp
  try simp only [List.getElem_toArray, List.getElem_cons_succ, List.getElem_cons_zero, Act.put, List.setIfInBounds_toArray, List.set_cons_zero, List.set_cons_succ]
  refine wpQuiet_nil ?_
  intro v2 hb
  have hr0 := Sn.bk_below HR0.out hb (Sn.bk_lt HR0.out)
  have hB := Sn.below_next HB.out hb HB.out.size
  clear HB HR0 hb
  have HB := Lib.hid hB
  have HR0 := Lib.hid hr0
  clear hB hr0
  go_wp2
  go_ret
  exact ⟨rfl, HB.out⟩

set_option maxHeartbeats 1600000 in
theorem inLower_any (a : Int) (s : Sn.S) (w : World) :
    Calls Try.prog 62 #[.int .i64 a, Sn.v s] w fun e w' => e = .returned (.bool (decide (Wd.sgn a s.2 ≥ 0))) ∧ Below w.heap.size w w' := by
  obtain ⟨x1, x2⟩ := s
  show Calls Try.prog 62 #[.int .i64 a, .agg #[.int .u64 x1, .int .u64 x2]] w _
  go_enter Try.func62, Try.ntmps62
  go_wp2_with (go_at_call 85; refine (sign_any _ _ _).mono ?_; rintro e w9 ⟨rfl, rfl⟩)
  go_ret
  exact ⟨rfl, Sn.box _ _⟩

set_option maxHeartbeats 1600000 in
theorem inUpper_any (a : Int) (s : Sn.S) (w : World) :
    Calls Try.prog 86 #[.int .i64 a, Sn.v s] w fun e w' => e = .returned (.bool (decide (Wd.sgn a s.1 < 0))) ∧ Below w.heap.size w w' := by
  obtain ⟨x1, x2⟩ := s
  show Calls Try.prog 86 #[.int .i64 a, .agg #[.int .u64 x1, .int .u64 x2]] w _
  go_enter Try.func86, Try.ntmps86
  go_wp2_with (go_at_call 85; refine (sign_any _ _ _).mono ?_; rintro e w9 ⟨rfl, rfl⟩)
  go_ret
  exact ⟨rfl, Sn.box _ _⟩


end Go.Proofs.Ytbjckcjfambpoaa
