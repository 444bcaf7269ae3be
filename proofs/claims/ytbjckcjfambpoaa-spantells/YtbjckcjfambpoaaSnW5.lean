/-
  Layer 11: compare; the rules and what they make of two spans.
-/
import Derived.Test.YtbjckcjfambpoaaSnW4
namespace Go.Proofs.Ytbjckcjfambpoaa
set_option linter.unusedSimpArgs false
set_option linter.unusedVariables false
open Go.RowKit Go.Maps
set_option maxRecDepth 100000

def Sn.cmpT (op a : Int) (x y : Sn.S) : Sn.S := if op = 20 then Sn.less x y else if op = 21 then Sn.below a x y else Sn.eqT x y
set_option maxHeartbeats 6400000 in
theorem compare_any (op a : Int) (x y : Sn.S) (hx : Sn.Ok a x) (hy : Sn.Ok a y) (w : World) :
    Calls Try.prog 29 #[.int .i64 op, .int .i64 a, Sn.v x, Sn.v y] w fun e w' => e = .returned (Sn.v (Sn.cmpT op a x y)) ∧ Below w.heap.size w w' := by
  obtain ⟨x1, x2⟩ := x
  obtain ⟨y1, y2⟩ := y
  show Calls Try.prog 29 #[.int .i64 op, .int .i64 a, .agg #[.int .u64 x1, .int .u64 x2], .agg #[.int .u64 y1, .int .u64 y2]] w _
  unfold Sn.cmpT
  by_cases h20 : op = 20
  · rw [if_pos h20]
    have hb : (op == 20) = true := by simpa using h20
    clear h20
    have HLS := Lib.hid (fun W => sless_any (x1, x2) (y1, y2) W)
    generalize Sn.less (x1, x2) (y1, y2) = ls at *
    obtain ⟨l1, l2⟩ := ls
    go_enter Try.func29, Try.ntmps29
    go_upto_region 1 with (fail)
    have hB : Below w.heap.size w (((w.alloc (.cells #[.int .u64 x1, .int .u64 x2] 24)).alloc (.cells #[.int .u64 y1, .int .u64 y2] 24)).alloc (.cells #[.int .u64 0, .int .u64 0] 24)) := ((((Below.refl _ _).alloc (Nat.le_refl _) _).alloc (by simp) _).alloc (by simp; omega) _)
    have hr0 : Sn.Bk (((w.alloc (.cells #[.int .u64 x1, .int .u64 x2] 24)).alloc (.cells #[.int .u64 y1, .int .u64 y2] 24)).alloc (.cells #[.int .u64 0, .int .u64 0] 24)) (w.heap.size) 24 #[.int .u64 x1, .int .u64 x2] := Sn.bk_old (Sn.bk_old (Sn.bk_new _ _ _) _) _
    have hr1 : Sn.Bk (((w.alloc (.cells #[.int .u64 x1, .int .u64 x2] 24)).alloc (.cells #[.int .u64 y1, .int .u64 y2] 24)).alloc (.cells #[.int .u64 0, .int .u64 0] 24)) (w.heap.size + 1) 24 #[.int .u64 y1, .int .u64 y2] := Sn.bk_old (Sn.bk_at (by simp)) _
    have hr2 : Sn.Bk (((w.alloc (.cells #[.int .u64 x1, .int .u64 x2] 24)).alloc (.cells #[.int .u64 y1, .int .u64 y2] 24)).alloc (.cells #[.int .u64 0, .int .u64 0] 24)) (w.heap.size + 1 + 1) 24 #[.int .u64 0, .int .u64 0] := Sn.bk_at (by simp)
    generalize (((w.alloc (.cells #[.int .u64 x1, .int .u64 x2] 24)).alloc (.cells #[.int .u64 y1, .int .u64 y2] 24)).alloc (.cells #[.int .u64 0, .int .u64 0] 24)) = v at *
    have HB := Lib.hid hB
    have HR0 := Lib.hid hr0
    have HR1 := Lib.hid hr1
    have HR2 := Lib.hid hr2
    clear hB hr0 hr1 hr2
    go_wp2_with (first | (with_reducible refine Sn.load_sp (.tmp 6) (w.heap.size) #[.int .u64 x1, .int .u64 x2] HR0.out rfl rfl rfl rfl ?_) | (with_reducible refine Sn.load_sp (.tmp 7) (w.heap.size + 1) #[.int .u64 y1, .int .u64 y2] HR1.out rfl rfl rfl rfl ?_))
    refine (HLS.out v).mono ?_
    rintro e v2 ⟨rfl, hb⟩
    have hr2 := Sn.bk_below HR2.out hb (Sn.bk_lt HR2.out)
    have hB := Sn.below_next HB.out hb HB.out.size
    clear HB HR2 hb
    have HB := Lib.hid hB
    have HR2 := Lib.hid hr2
    clear hB hr2
    have H1C := Lib.hid (show (#[.int .u64 l1, .int .u64 l2] : Array Value).all (·.oneCell') = true from by simp [Value.oneCell'])
    go_wp2_with (with_reducible refine Sn.store_sp (.tmp 8) (.tmp 14) (w.heap.size + 1 + 1) #[.int .u64 0, .int .u64 0] #[.int .u64 l1, .int .u64 l2] HR2.out rfl rfl rfl rfl rfl rfl H1C.out ?_)
    refine Sn.ret_sp (w.heap.size + 1 + 1) _ (Sn.bk_row HR2.out _) rfl rfl rfl rfl ?_
    exact ⟨rfl, Sn.below_set HB.out (by omega) _⟩
  rw [if_neg h20]
  have hb0 : (op == 20) = false := by simpa using h20
  clear h20
  by_cases h21 : op = 21
  · rw [if_pos h21]
    have hb : (op == 21) = true := by simpa using h21
    clear h21
    have HLS := Lib.hid (fun W => sbelow_any a (x1, x2) (y1, y2) hx hy W)
    generalize Sn.below a (x1, x2) (y1, y2) = ls at *
    obtain ⟨l1, l2⟩ := ls
    go_enter Try.func29, Try.ntmps29
    go_upto_region 1 with (fail)
    have hB : Below w.heap.size w (((w.alloc (.cells #[.int .u64 x1, .int .u64 x2] 24)).alloc (.cells #[.int .u64 y1, .int .u64 y2] 24)).alloc (.cells #[.int .u64 0, .int .u64 0] 24)) := ((((Below.refl _ _).alloc (Nat.le_refl _) _).alloc (by simp) _).alloc (by simp; omega) _)
    have hr0 : Sn.Bk (((w.alloc (.cells #[.int .u64 x1, .int .u64 x2] 24)).alloc (.cells #[.int .u64 y1, .int .u64 y2] 24)).alloc (.cells #[.int .u64 0, .int .u64 0] 24)) (w.heap.size) 24 #[.int .u64 x1, .int .u64 x2] := Sn.bk_old (Sn.bk_old (Sn.bk_new _ _ _) _) _
    have hr1 : Sn.Bk (((w.alloc (.cells #[.int .u64 x1, .int .u64 x2] 24)).alloc (.cells #[.int .u64 y1, .int .u64 y2] 24)).alloc (.cells #[.int .u64 0, .int .u64 0] 24)) (w.heap.size + 1) 24 #[.int .u64 y1, .int .u64 y2] := Sn.bk_old (Sn.bk_at (by simp)) _
    have hr2 : Sn.Bk (((w.alloc (.cells #[.int .u64 x1, .int .u64 x2] 24)).alloc (.cells #[.int .u64 y1, .int .u64 y2] 24)).alloc (.cells #[.int .u64 0, .int .u64 0] 24)) (w.heap.size + 1 + 1) 24 #[.int .u64 0, .int .u64 0] := Sn.bk_at (by simp)
    generalize (((w.alloc (.cells #[.int .u64 x1, .int .u64 x2] 24)).alloc (.cells #[.int .u64 y1, .int .u64 y2] 24)).alloc (.cells #[.int .u64 0, .int .u64 0] 24)) = v at *
    have HB := Lib.hid hB
    have HR0 := Lib.hid hr0
    have HR1 := Lib.hid hr1
    have HR2 := Lib.hid hr2
    clear hB hr0 hr1 hr2
    go_wp2_with (first | (with_reducible refine Sn.load_sp (.tmp 6) (w.heap.size) #[.int .u64 x1, .int .u64 x2] HR0.out rfl rfl rfl rfl ?_) | (with_reducible refine Sn.load_sp (.tmp 7) (w.heap.size + 1) #[.int .u64 y1, .int .u64 y2] HR1.out rfl rfl rfl rfl ?_))
    refine (HLS.out v).mono ?_
    rintro e v2 ⟨rfl, hb⟩
    have hr2 := Sn.bk_below HR2.out hb (Sn.bk_lt HR2.out)
    have hB := Sn.below_next HB.out hb HB.out.size
    clear HB HR2 hb
    have HB := Lib.hid hB
    have HR2 := Lib.hid hr2
    clear hB hr2
    have H1C := Lib.hid (show (#[.int .u64 l1, .int .u64 l2] : Array Value).all (·.oneCell') = true from by simp [Value.oneCell'])
    go_wp2_with (with_reducible refine Sn.store_sp (.tmp 8) (.tmp 20) (w.heap.size + 1 + 1) #[.int .u64 0, .int .u64 0] #[.int .u64 l1, .int .u64 l2] HR2.out rfl rfl rfl rfl rfl rfl H1C.out ?_)
    refine Sn.ret_sp (w.heap.size + 1 + 1) _ (Sn.bk_row HR2.out _) rfl rfl rfl rfl ?_
    exact ⟨rfl, Sn.below_set HB.out (by omega) _⟩
  rw [if_neg h21]
  have hb1 : (op == 21) = false := by simpa using h21
  clear h21
  unfold Sn.eqT
  dsimp only
  by_cases g1 : x2 < y1
  · rw [if_pos (.inl g1)]
    go_enter Try.func29, Try.ntmps29
    go_upto_region 1 with (fail)
    have hB : Below w.heap.size w (((w.alloc (.cells #[.int .u64 x1, .int .u64 x2] 24)).alloc (.cells #[.int .u64 y1, .int .u64 y2] 24)).alloc (.cells #[.int .u64 0, .int .u64 0] 24)) := ((((Below.refl _ _).alloc (Nat.le_refl _) _).alloc (by simp) _).alloc (by simp; omega) _)
    have hr0 : Sn.Bk (((w.alloc (.cells #[.int .u64 x1, .int .u64 x2] 24)).alloc (.cells #[.int .u64 y1, .int .u64 y2] 24)).alloc (.cells #[.int .u64 0, .int .u64 0] 24)) (w.heap.size) 24 #[.int .u64 x1, .int .u64 x2] := Sn.bk_old (Sn.bk_old (Sn.bk_new _ _ _) _) _
    have hr1 : Sn.Bk (((w.alloc (.cells #[.int .u64 x1, .int .u64 x2] 24)).alloc (.cells #[.int .u64 y1, .int .u64 y2] 24)).alloc (.cells #[.int .u64 0, .int .u64 0] 24)) (w.heap.size + 1) 24 #[.int .u64 y1, .int .u64 y2] := Sn.bk_old (Sn.bk_at (by simp)) _
    have hr2 : Sn.Bk (((w.alloc (.cells #[.int .u64 x1, .int .u64 x2] 24)).alloc (.cells #[.int .u64 y1, .int .u64 y2] 24)).alloc (.cells #[.int .u64 0, .int .u64 0] 24)) (w.heap.size + 1 + 1) 24 #[.int .u64 0, .int .u64 0] := Sn.bk_at (by simp)
    generalize (((w.alloc (.cells #[.int .u64 x1, .int .u64 x2] 24)).alloc (.cells #[.int .u64 y1, .int .u64 y2] 24)).alloc (.cells #[.int .u64 0, .int .u64 0] 24)) = v at *
    have HB := Lib.hid hB
    have HR0 := Lib.hid hr0
    have HR1 := Lib.hid hr1
    have HR2 := Lib.hid hr2
    clear hB hr0 hr1 hr2
    have c0_0 := Sn.bk_c HR0.out 0
    have c0_1 := Sn.bk_c HR0.out 1
    have c1_0 := Sn.bk_c HR1.out 0
    have c1_1 := Sn.bk_c HR1.out 1
    simp only [List.getElem?_toArray, List.getElem?_cons_zero, List.getElem?_cons_succ] at c0_0 c0_1 c1_0 c1_1
    go_wp2_with fail
    refine (point_any 0 v).mono ?_
    rintro e v2 ⟨rfl, hb⟩
    have hr2 := Sn.bk_below HR2.out hb (Sn.bk_lt HR2.out)
    have hB := Sn.below_next HB.out hb HB.out.size
    clear HB HR2 hb
    have HB := Lib.hid hB
    have HR2 := Lib.hid hr2
    clear hB hr2
    have H1C := Lib.hid (show (#[.int .u64 0, .int .u64 0] : Array Value).all (·.oneCell') = true from by simp [Value.oneCell'])
    go_wp2_with (with_reducible refine Sn.store_sp (.tmp 8) (.tmp 33) (w.heap.size + 1 + 1) #[.int .u64 0, .int .u64 0] #[.int .u64 0, .int .u64 0] HR2.out rfl rfl rfl rfl rfl rfl H1C.out ?_)
    refine Sn.ret_sp (w.heap.size + 1 + 1) _ (Sn.bk_row HR2.out _) rfl rfl rfl rfl ?_
    exact ⟨rfl, Sn.below_set HB.out (by omega) _⟩
  by_cases g2 : y2 < x1
  · rw [if_pos (.inr g2)]
    go_enter Try.func29, Try.ntmps29
    go_upto_region 1 with (fail)
    have hB : Below w.heap.size w (((w.alloc (.cells #[.int .u64 x1, .int .u64 x2] 24)).alloc (.cells #[.int .u64 y1, .int .u64 y2] 24)).alloc (.cells #[.int .u64 0, .int .u64 0] 24)) := ((((Below.refl _ _).alloc (Nat.le_refl _) _).alloc (by simp) _).alloc (by simp; omega) _)
    have hr0 : Sn.Bk (((w.alloc (.cells #[.int .u64 x1, .int .u64 x2] 24)).alloc (.cells #[.int .u64 y1, .int .u64 y2] 24)).alloc (.cells #[.int .u64 0, .int .u64 0] 24)) (w.heap.size) 24 #[.int .u64 x1, .int .u64 x2] := Sn.bk_old (Sn.bk_old (Sn.bk_new _ _ _) _) _
    have hr1 : Sn.Bk (((w.alloc (.cells #[.int .u64 x1, .int .u64 x2] 24)).alloc (.cells #[.int .u64 y1, .int .u64 y2] 24)).alloc (.cells #[.int .u64 0, .int .u64 0] 24)) (w.heap.size + 1) 24 #[.int .u64 y1, .int .u64 y2] := Sn.bk_old (Sn.bk_at (by simp)) _
    have hr2 : Sn.Bk (((w.alloc (.cells #[.int .u64 x1, .int .u64 x2] 24)).alloc (.cells #[.int .u64 y1, .int .u64 y2] 24)).alloc (.cells #[.int .u64 0, .int .u64 0] 24)) (w.heap.size + 1 + 1) 24 #[.int .u64 0, .int .u64 0] := Sn.bk_at (by simp)
    generalize (((w.alloc (.cells #[.int .u64 x1, .int .u64 x2] 24)).alloc (.cells #[.int .u64 y1, .int .u64 y2] 24)).alloc (.cells #[.int .u64 0, .int .u64 0] 24)) = v at *
    have HB := Lib.hid hB
    have HR0 := Lib.hid hr0
    have HR1 := Lib.hid hr1
    have HR2 := Lib.hid hr2
    clear hB hr0 hr1 hr2
    have c0_0 := Sn.bk_c HR0.out 0
    have c0_1 := Sn.bk_c HR0.out 1
    have c1_0 := Sn.bk_c HR1.out 0
    have c1_1 := Sn.bk_c HR1.out 1
    simp only [List.getElem?_toArray, List.getElem?_cons_zero, List.getElem?_cons_succ] at c0_0 c0_1 c1_0 c1_1
    go_wp2_with fail
    refine (point_any 0 v).mono ?_
    rintro e v2 ⟨rfl, hb⟩
    have hr2 := Sn.bk_below HR2.out hb (Sn.bk_lt HR2.out)
    have hB := Sn.below_next HB.out hb HB.out.size
    clear HB HR2 hb
    have HB := Lib.hid hB
    have HR2 := Lib.hid hr2
    clear hB hr2
    have H1C := Lib.hid (show (#[.int .u64 0, .int .u64 0] : Array Value).all (·.oneCell') = true from by simp [Value.oneCell'])
    go_wp2_with (with_reducible refine Sn.store_sp (.tmp 8) (.tmp 33) (w.heap.size + 1 + 1) #[.int .u64 0, .int .u64 0] #[.int .u64 0, .int .u64 0] HR2.out rfl rfl rfl rfl rfl rfl H1C.out ?_)
    refine Sn.ret_sp (w.heap.size + 1 + 1) _ (Sn.bk_row HR2.out _) rfl rfl rfl rfl ?_
    exact ⟨rfl, Sn.below_set HB.out (by omega) _⟩
  rw [if_neg (fun h => h.elim g1 g2)]
  go_enter Try.func29, Try.ntmps29
  go_upto_region 1 with (fail)
  have hB : Below w.heap.size w (((w.alloc (.cells #[.int .u64 x1, .int .u64 x2] 24)).alloc (.cells #[.int .u64 y1, .int .u64 y2] 24)).alloc (.cells #[.int .u64 0, .int .u64 0] 24)) := ((((Below.refl _ _).alloc (Nat.le_refl _) _).alloc (by simp) _).alloc (by simp; omega) _)
  have hr0 : Sn.Bk (((w.alloc (.cells #[.int .u64 x1, .int .u64 x2] 24)).alloc (.cells #[.int .u64 y1, .int .u64 y2] 24)).alloc (.cells #[.int .u64 0, .int .u64 0] 24)) (w.heap.size) 24 #[.int .u64 x1, .int .u64 x2] := Sn.bk_old (Sn.bk_old (Sn.bk_new _ _ _) _) _
  have hr1 : Sn.Bk (((w.alloc (.cells #[.int .u64 x1, .int .u64 x2] 24)).alloc (.cells #[.int .u64 y1, .int .u64 y2] 24)).alloc (.cells #[.int .u64 0, .int .u64 0] 24)) (w.heap.size + 1) 24 #[.int .u64 y1, .int .u64 y2] := Sn.bk_old (Sn.bk_at (by simp)) _
  have hr2 : Sn.Bk (((w.alloc (.cells #[.int .u64 x1, .int .u64 x2] 24)).alloc (.cells #[.int .u64 y1, .int .u64 y2] 24)).alloc (.cells #[.int .u64 0, .int .u64 0] 24)) (w.heap.size + 1 + 1) 24 #[.int .u64 0, .int .u64 0] := Sn.bk_at (by simp)
  generalize (((w.alloc (.cells #[.int .u64 x1, .int .u64 x2] 24)).alloc (.cells #[.int .u64 y1, .int .u64 y2] 24)).alloc (.cells #[.int .u64 0, .int .u64 0] 24)) = v at *
  have HB := Lib.hid hB
  have HR0 := Lib.hid hr0
  have HR1 := Lib.hid hr1
  have HR2 := Lib.hid hr2
  clear hB hr0 hr1 hr2
  have c0_0 := Sn.bk_c HR0.out 0
  have c0_1 := Sn.bk_c HR0.out 1
  have c1_0 := Sn.bk_c HR1.out 0
  have c1_1 := Sn.bk_c HR1.out 1
  simp only [List.getElem?_toArray, List.getElem?_cons_zero, List.getElem?_cons_succ] at c0_0 c0_1 c1_0 c1_1
  go_wp2_with fail
  refine (either_any v).mono ?_
  rintro e v2 ⟨rfl, hb⟩
  have hr2 := Sn.bk_below HR2.out hb (Sn.bk_lt HR2.out)
  have hB := Sn.below_next HB.out hb HB.out.size
  clear HB HR2 hb
  have HB := Lib.hid hB
  have HR2 := Lib.hid hr2
  clear hB hr2
  have H1C := Lib.hid (show (#[.int .u64 0, .int .u64 1] : Array Value).all (·.oneCell') = true from by simp [Value.oneCell'])
  go_wp2_with (with_reducible refine Sn.store_sp (.tmp 8) (.tmp 34) (w.heap.size + 1 + 1) #[.int .u64 0, .int .u64 0] #[.int .u64 0, .int .u64 1] HR2.out rfl rfl rfl rfl rfl rfl H1C.out ?_)
  refine Sn.ret_sp (w.heap.size + 1 + 1) _ (Sn.bk_row HR2.out _) rfl rfl rfl rfl ?_
  exact ⟨rfl, Sn.below_set HB.out (by omega) _⟩

abbrev Sn.Z4 : Array Value := #[.bool false, .nilFunc, .nilFunc, .bool false]
/-- A rule as a value. -/
abbrev Sn.rl (says : Bool) (f g : Value) (crossed : Bool) : Value := .agg #[.bool says, f, g, .bool crossed]
set_option maxHeartbeats 1600000 in
theorem rising_any (says : Bool) (f : FuncId) (fc : Array Value) (w : World) :
    Calls Try.prog 45 #[.bool says, .func (.func f) #[] fc] w fun e w' => e = .returned (Sn.rl says (.func (.func f) #[] fc) (.func (.func f) #[] fc) false) ∧ Below w.heap.size w w' := by
  go_enter Try.func45, Try.ntmps45
  go_wp2_with (with_reducible refine Sn.store_rl (.tmp 4) (.tmp 8) w.heap.size Sn.Z4 #[.bool says, .func (.func f) #[] fc, .func (.func f) #[] fc, .bool false] (Sn.bk_new _ _ _) rfl rfl rfl rfl rfl rfl (by simp [Value.oneCell']) ?_)
  refine Sn.ret_rl w.heap.size #[.bool says, .func (.func f) #[] fc, .func (.func f) #[] fc, .bool false] (Sn.bk_row (Sn.bk_new _ _ _) _) rfl rfl rfl rfl ?_
  exact ⟨rfl, Sn.below_set (Sn.box _ _) (Nat.le_refl _) _⟩

set_option maxHeartbeats 1600000 in
theorem crossing_any (says : Bool) (f : FuncId) (fc : Array Value) (w : World) :
    Calls Try.prog 48 #[.bool says, .func (.func f) #[] fc] w fun e w' => e = .returned (Sn.rl says (.func (.func f) #[] fc) (.func (.func f) #[] fc) true) ∧ Below w.heap.size w w' := by
  go_enter Try.func48, Try.ntmps48
  go_wp2_with (with_reducible refine Sn.store_rl (.tmp 4) (.tmp 8) w.heap.size Sn.Z4 #[.bool says, .func (.func f) #[] fc, .func (.func f) #[] fc, .bool true] (Sn.bk_new _ _ _) rfl rfl rfl rfl rfl rfl (by simp [Value.oneCell']) ?_)
  refine Sn.ret_rl w.heap.size #[.bool says, .func (.func f) #[] fc, .func (.func f) #[] fc, .bool true] (Sn.bk_row (Sn.bk_new _ _ _) _) rfl rfl rfl rfl ?_
  exact ⟨rfl, Sn.below_set (Sn.box _ _) (Nat.le_refl _) _⟩


end Go.Proofs.Ytbjckcjfambpoaa
