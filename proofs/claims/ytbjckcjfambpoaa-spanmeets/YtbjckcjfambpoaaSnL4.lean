/-
  Layer 11: the walk of SpanMeets.
-/
import Derived.Test.YtbjckcjfambpoaaSnL2
namespace Go.Proofs.Ytbjckcjfambpoaa
set_option linter.unusedSimpArgs false
set_option linter.unusedVariables false
open Go.RowKit Go.Maps
set_option maxRecDepth 100000

theorem sp_fd0 (p q : Int) (W : World) : (Instr.field 24 (.agg #[.int .u64 p, .int .u64 q]) 0).run Try.prog W = .ok (.int .u64 p) W := by kernel_rfl
theorem sp_fd1 (p q : Int) (W : World) : (Instr.field 24 (.agg #[.int .u64 p, .int .u64 q]) 1).run Try.prog W = .ok (.int .u64 q) W := by kernel_rfl

namespace Sn
theorem meets_1 (a : Int) (x y : S) (n : Int) (hx : 0 ≤ x.1) (hy : 0 ≤ y.1) : (has a x n && has a y n) = ((meet a x y).2 && has a (meet a x y).1 n) := by
  have hr := rt_ok a x hx; have hs := rt_ok a y hy
  by_cases hc : min (rt a x).2 (rt a y).2 < max (rt a x).1 (rt a y).1
  · have e : meet a x y = ((0, 0), false) := by unfold meet; rw [if_pos hc]
    rw [e]
    rw [Bool.eq_false_iff.2 (show (has a x n && has a y n) ≠ true from fun h => by
      rw [Bool.and_eq_true, has_iff, has_iff] at h; omega)]
    rfl
  · have e : meet a x y = ((max (rt a x).1 (rt a y).1, min (rt a x).2 (rt a y).2), true) := by unfold meet; rw [if_neg hc]
    have ho : Ok a (max (rt a x).1 (rt a y).1, min (rt a x).2 (rt a y).2) := by unfold Ok at *; dsimp only; omega
    rw [e, Bool.true_and, Bool.eq_iff_iff, Bool.and_eq_true, has_iff, has_iff, has_iff, rt_of a _ ho]
    dsimp only
    omega
theorem meets_2 (a : Int) (x y : S) (n : Int) (hx : 0 ≤ x.1) (hy : 0 ≤ y.1) (h : has a x n = true ∨ has a y n = true) : has a (join a x y) n = true := by
  have ho := join_ok a x y hx hy
  rw [has_iff, has_iff] at h
  rw [has_iff, rt_of a _ ho]
  unfold join
  dsimp only
  omega
theorem meets_3 (a : Int) (x y : S) (hx : 0 ≤ x.1) (hy : 0 ≤ y.1) : has a (join a x y) (rt a x).1 = true ∧ has a (join a x y) (rt a y).2 = true := by
  have hr := rt_ok a x hx; have hs := rt_ok a y hy
  have ho := join_ok a x y hx hy
  unfold Ok at hr hs
  rw [has_iff, has_iff, rt_of a _ ho, cut_w a _ (by omega) (by omega), cut_w a _ (by omega) (by omega)]
  unfold join
  dsimp only
  omega
end Sn

set_option maxHeartbeats 25600000 in
theorem meets_walk (a : Int) (x y : Sn.S) (n : Int) (hx : Sn.U x) (hy : Sn.U y) (w : World) :
    Calls Try.prog 5 #[.int .i64 a, Sn.v x, Sn.v y, .int .u64 n] w fun e w' => e = .returned (.bool true) ∧ Below w.heap.size w w' := by
  obtain ⟨x1, x2⟩ := x
  obtain ⟨y1, y2⟩ := y
  have f1 := Sn.meets_1 a (x1, x2) (y1, y2) n hx.1.1 hy.1.1
  have f2 := Sn.meets_2 a (x1, x2) (y1, y2) n hx.1.1 hy.1.1
  obtain ⟨f3, f4⟩ := Sn.meets_3 a (x1, x2) (y1, y2) hx.1.1 hy.1.1
  have HX := Lib.hid (fun W => right_any a (x1, x2) W)
  have HY := Lib.hid (fun W => right_any a (y1, y2) W)
  have HM := Lib.hid (fun W => meet_any a (x1, x2) (y1, y2) W)
  have hm2 := fun W => meet_any a (y1, y2) (x1, x2) W
  have HJ := Lib.hid (fun W => join_any a (x1, x2) (y1, y2) W)
  have hj2 := fun W => join_any a (y1, y2) (x1, x2) W
  simp only [Sn.meet_comm a (y1, y2) (x1, x2)] at hm2
  simp only [Sn.join_comm a (y1, y2) (x1, x2)] at hj2
  have HM2 := Lib.hid hm2
  have HJ2 := Lib.hid hj2
  clear hm2 hj2
  generalize Sn.meet a (x1, x2) (y1, y2) = r at *
  generalize Sn.join a (x1, x2) (y1, y2) = j at *
  generalize Sn.rt a (x1, x2) = rx at *
  generalize Sn.rt a (y1, y2) = ry at *
  obtain ⟨⟨m1, m2⟩, ok⟩ := r
  obtain ⟨j1, j2⟩ := j
  obtain ⟨p1, p2⟩ := rx
  obtain ⟨q1, q2⟩ := ry
  dsimp only at *
  clear hx hy
  cases d1 : Sn.has a (x1, x2) n with
  | true =>
    cases d2 : Sn.has a (y1, y2) n with
    | true =>
      have d3 : ok = true := by rw [d1, d2] at f1; cases ok <;> simp at f1 ⊢
      have d4 : Sn.has a (m1, m2) n = true := by rw [d1, d2, d3] at f1; simpa using f1.symm
      subst d3
      have hC1 : Sn.has a (x1, x2) n = true := d1
      have hC2 : Sn.has a (y1, y2) n = true := d2
      clear d1 d2
      have C1 : Hid (∀ W : World, Calls Try.prog 13 #[.int .i64 a, Sn.v (x1, x2), .int .u64 n] W fun e w' => e = .returned (.bool true) ∧ Below W.heap.size W w') := Lib.hid (fun W => by
        have h := has_any a (x1, x2) n W
        rw [hC1] at h
        exact h)
      have C2 : Hid (∀ W : World, Calls Try.prog 13 #[.int .i64 a, Sn.v (y1, y2), .int .u64 n] W fun e w' => e = .returned (.bool true) ∧ Below W.heap.size W w') := Lib.hid (fun W => by
        have h := has_any a (y1, y2) n W
        rw [hC2] at h
        exact h)
      have C4 : Hid (∀ W : World, Calls Try.prog 13 #[.int .i64 a, Sn.v (j1, j2), .int .u64 p1] W fun e w' => e = .returned (.bool true) ∧ Below W.heap.size W w') := Lib.hid (fun W => by
        have h := has_any a (j1, j2) p1 W
        rw [f3] at h
        exact h)
      have C5 : Hid (∀ W : World, Calls Try.prog 13 #[.int .i64 a, Sn.v (j1, j2), .int .u64 q2] W fun e w' => e = .returned (.bool true) ∧ Below W.heap.size W w') := Lib.hid (fun W => by
        have h := has_any a (j1, j2) q2 W
        rw [f4] at h
        exact h)
      have hC3 : Sn.has a (m1, m2) n = true := by simpa using d4
      clear d4
      have C3 : Hid (∀ W : World, Calls Try.prog 13 #[.int .i64 a, Sn.v (m1, m2), .int .u64 n] W fun e w' => e = .returned (.bool true) ∧ Below W.heap.size W w') := Lib.hid (fun W => by
        have h := has_any a (m1, m2) n W
        rw [hC3] at h
        exact h)
      clear hC3
      have hC6 : Sn.has a (j1, j2) n = true := f2 (.inl hC1)
      have C6 : Hid (∀ W : World, Calls Try.prog 13 #[.int .i64 a, Sn.v (j1, j2), .int .u64 n] W fun e w' => e = .returned (.bool true) ∧ Below W.heap.size W w') := Lib.hid (fun W => by
        have h := has_any a (j1, j2) n W
        rw [hC6] at h
        exact h)
      clear hC6
      clear hC1 hC2 f1 f2 f3 f4
      show Calls Try.prog 5 #[.int .i64 a, .agg #[.int .u64 x1, .int .u64 x2], .agg #[.int .u64 y1, .int .u64 y2], .int .u64 n] w _
      go_enter Try.func5, Try.ntmps5
      go_upto_region 1 with (fail)
      have hB : Below w.heap.size w ((w.alloc (.cells #[.int .u64 x1, .int .u64 x2] 24)).alloc (.cells #[.int .u64 y1, .int .u64 y2] 24)) := (((Below.refl _ _).alloc (Nat.le_refl _) _).alloc (by simp) _)
      have hr0 : Sn.Bk ((w.alloc (.cells #[.int .u64 x1, .int .u64 x2] 24)).alloc (.cells #[.int .u64 y1, .int .u64 y2] 24)) (w.heap.size) 24 #[.int .u64 x1, .int .u64 x2] := Sn.bk_old (Sn.bk_new _ _ _) _
      have hr1 : Sn.Bk ((w.alloc (.cells #[.int .u64 x1, .int .u64 x2] 24)).alloc (.cells #[.int .u64 y1, .int .u64 y2] 24)) (w.heap.size + 1) 24 #[.int .u64 y1, .int .u64 y2] := Sn.bk_at (by simp)
      generalize ((w.alloc (.cells #[.int .u64 x1, .int .u64 x2] 24)).alloc (.cells #[.int .u64 y1, .int .u64 y2] 24)) = v at *
      have HB := Lib.hid hB
      have HR0 := Lib.hid hr0
      have HR1 := Lib.hid hr1
      clear hB hr0 hr1
      go_wp2_with fail
      refine (sn_awake v).mono ?_
      rintro e v2 ⟨rfl, hb⟩
      have hr0 := Sn.bk_below HR0.out hb (Sn.bk_lt HR0.out)
      have hr1 := Sn.bk_below HR1.out hb (Sn.bk_lt HR1.out)
      have hB := Sn.below_next HB.out hb HB.out.size
      clear HB HR0 HR1 hb
      have HB := Lib.hid hB
      have HR0 := Lib.hid hr0
      have HR1 := Lib.hid hr1
      clear hB hr0 hr1
      clear v
      rename World => v
      have c0_0 := Sn.bk_c HR0.out 0
      have c0_1 := Sn.bk_c HR0.out 1
      have c1_0 := Sn.bk_c HR1.out 0
      have c1_1 := Sn.bk_c HR1.out 1
      simp only [List.getElem?_toArray, List.getElem?_cons_zero, List.getElem?_cons_succ] at c0_0 c0_1 c1_0 c1_1
      go_wp2_with fail
      clear c0_0 c0_1 c1_0 c1_1
      refine (HM.out v).mono ?_
      rintro e v2 ⟨rfl, hb⟩
      have hr0 := Sn.bk_below HR0.out hb (Sn.bk_lt HR0.out)
      have hr1 := Sn.bk_below HR1.out hb (Sn.bk_lt HR1.out)
      have hB := Sn.below_next HB.out hb HB.out.size
      clear HB HR0 HR1 hb
      have HB := Lib.hid hB
      have HR0 := Lib.hid hr0
      have HR1 := Lib.hid hr1
      clear hB hr0 hr1
      clear v
      rename World => v
      go_upto_region 4 with (fail)
      have hB : Below w.heap.size w (v.alloc (.cells #[.int .u64 m1, .int .u64 m2] 24)) := (HB.out).alloc (by exact HB.out.size) _
      have hr0 : Sn.Bk (v.alloc (.cells #[.int .u64 m1, .int .u64 m2] 24)) (w.heap.size) 24 #[.int .u64 x1, .int .u64 x2] := Sn.bk_old (HR0.out) _
      have hr1 : Sn.Bk (v.alloc (.cells #[.int .u64 m1, .int .u64 m2] 24)) (w.heap.size + 1) 24 #[.int .u64 y1, .int .u64 y2] := Sn.bk_old (HR1.out) _
      have hr2 : Sn.Bk (v.alloc (.cells #[.int .u64 m1, .int .u64 m2] 24)) (v.heap.size) 24 #[.int .u64 m1, .int .u64 m2] := Sn.bk_new _ _ _
      clear HB HR0 HR1
      generalize (v.alloc (.cells #[.int .u64 m1, .int .u64 m2] 24)) = u at *
      generalize v.heap.size = b3 at *
      clear v
      rename World => v
      have HB := Lib.hid hB
      have HR0 := Lib.hid hr0
      have HR1 := Lib.hid hr1
      have HR2 := Lib.hid hr2
      clear hB hr0 hr1 hr2
      have c0_0 := Sn.bk_c HR0.out 0
      have c0_1 := Sn.bk_c HR0.out 1
      have c1_0 := Sn.bk_c HR1.out 0
      have c1_1 := Sn.bk_c HR1.out 1
      simp only [List.getElem?_toArray, List.getElem?_cons_zero, List.getElem?_cons_succ] at c0_0 c0_1 c1_0 c1_1
      go_wp2_with fail
      clear c0_0 c0_1 c1_0 c1_1
      refine (HM2.out v).mono ?_
      rintro e v2 ⟨rfl, hb⟩
      have hr0 := Sn.bk_below HR0.out hb (Sn.bk_lt HR0.out)
      have hr1 := Sn.bk_below HR1.out hb (Sn.bk_lt HR1.out)
      have hr2 := Sn.bk_below HR2.out hb (Sn.bk_lt HR2.out)
      have hB := Sn.below_next HB.out hb HB.out.size
      clear HB HR0 HR1 HR2 hb
      have HB := Lib.hid hB
      have HR0 := Lib.hid hr0
      have HR1 := Lib.hid hr1
      have HR2 := Lib.hid hr2
      clear hB hr0 hr1 hr2
      clear v
      rename World => v
      go_upto_region 5 with (fail)
      have hB : Below w.heap.size w (v.alloc (.cells #[.int .u64 m1, .int .u64 m2] 24)) := (HB.out).alloc (by exact HB.out.size) _
      have hr0 : Sn.Bk (v.alloc (.cells #[.int .u64 m1, .int .u64 m2] 24)) (w.heap.size) 24 #[.int .u64 x1, .int .u64 x2] := Sn.bk_old (HR0.out) _
      have hr1 : Sn.Bk (v.alloc (.cells #[.int .u64 m1, .int .u64 m2] 24)) (w.heap.size + 1) 24 #[.int .u64 y1, .int .u64 y2] := Sn.bk_old (HR1.out) _
      have hr2 : Sn.Bk (v.alloc (.cells #[.int .u64 m1, .int .u64 m2] 24)) (b3) 24 #[.int .u64 m1, .int .u64 m2] := Sn.bk_old (HR2.out) _
      have hr3 : Sn.Bk (v.alloc (.cells #[.int .u64 m1, .int .u64 m2] 24)) (v.heap.size) 24 #[.int .u64 m1, .int .u64 m2] := Sn.bk_new _ _ _
      clear HB HR0 HR1 HR2
      generalize (v.alloc (.cells #[.int .u64 m1, .int .u64 m2] 24)) = u at *
      generalize v.heap.size = b4 at *
      clear v
      rename World => v
      have HB := Lib.hid hB
      have HR0 := Lib.hid hr0
      have HR1 := Lib.hid hr1
      have HR2 := Lib.hid hr2
      have HR3 := Lib.hid hr3
      clear hB hr0 hr1 hr2 hr3
      have c0_0 := Sn.bk_c HR0.out 0
      have c0_1 := Sn.bk_c HR0.out 1
      have c1_0 := Sn.bk_c HR1.out 0
      have c1_1 := Sn.bk_c HR1.out 1
      simp only [List.getElem?_toArray, List.getElem?_cons_zero, List.getElem?_cons_succ] at c0_0 c0_1 c1_0 c1_1
      go_wp2_with fail
      clear c0_0 c0_1 c1_0 c1_1
      refine (HJ.out v).mono ?_
      rintro e v2 ⟨rfl, hb⟩
      have hr0 := Sn.bk_below HR0.out hb (Sn.bk_lt HR0.out)
      have hr1 := Sn.bk_below HR1.out hb (Sn.bk_lt HR1.out)
      have hr2 := Sn.bk_below HR2.out hb (Sn.bk_lt HR2.out)
      have hr3 := Sn.bk_below HR3.out hb (Sn.bk_lt HR3.out)
      have hB := Sn.below_next HB.out hb HB.out.size
      clear HB HR0 HR1 HR2 HR3 hb
      have HB := Lib.hid hB
      have HR0 := Lib.hid hr0
      have HR1 := Lib.hid hr1
      have HR2 := Lib.hid hr2
      have HR3 := Lib.hid hr3
      clear hB hr0 hr1 hr2 hr3
      clear v
      rename World => v
      go_upto_region 6 with (fail)
      have hB : Below w.heap.size w (v.alloc (.cells #[.int .u64 j1, .int .u64 j2] 24)) := (HB.out).alloc (by exact HB.out.size) _
      have hr0 : Sn.Bk (v.alloc (.cells #[.int .u64 j1, .int .u64 j2] 24)) (w.heap.size) 24 #[.int .u64 x1, .int .u64 x2] := Sn.bk_old (HR0.out) _
      have hr1 : Sn.Bk (v.alloc (.cells #[.int .u64 j1, .int .u64 j2] 24)) (w.heap.size + 1) 24 #[.int .u64 y1, .int .u64 y2] := Sn.bk_old (HR1.out) _
      have hr2 : Sn.Bk (v.alloc (.cells #[.int .u64 j1, .int .u64 j2] 24)) (b3) 24 #[.int .u64 m1, .int .u64 m2] := Sn.bk_old (HR2.out) _
      have hr3 : Sn.Bk (v.alloc (.cells #[.int .u64 j1, .int .u64 j2] 24)) (b4) 24 #[.int .u64 m1, .int .u64 m2] := Sn.bk_old (HR3.out) _
      have hr4 : Sn.Bk (v.alloc (.cells #[.int .u64 j1, .int .u64 j2] 24)) (v.heap.size) 24 #[.int .u64 j1, .int .u64 j2] := Sn.bk_new _ _ _
      clear HB HR0 HR1 HR2 HR3
      generalize (v.alloc (.cells #[.int .u64 j1, .int .u64 j2] 24)) = u at *
      generalize v.heap.size = b5 at *
      clear v
      rename World => v
      have HB := Lib.hid hB
      have HR0 := Lib.hid hr0
      have HR1 := Lib.hid hr1
      have HR2 := Lib.hid hr2
      have HR3 := Lib.hid hr3
      have HR4 := Lib.hid hr4
      clear hB hr0 hr1 hr2 hr3 hr4
      refine qc_all (fun W => Below v.heap.size v W) (by kernel_rfl) (by kernel_rfl) (Below.refl _ _).drew ?_
      refine qc_take (.int .i64 a) (by rfl) (fun W hW => ?_) ?_
      · (try dsimp only at hW)
        go_simp
      try simp only [List.getElem_toArray, List.getElem_cons_succ, List.getElem_cons_zero, Act.put, List.setIfInBounds_toArray, List.set_cons_zero, List.set_cons_succ]
      refine qc_take (.agg #[.int .u64 x1, .int .u64 x2]) (by rfl) (fun W hW => ?_) ?_
      · (try dsimp only at hW)
        have y := Sn.bk_below HR0.out hW (Sn.bk_lt HR0.out)
        have y0 := Sn.bk_c y 0
        have y1 := Sn.bk_c y 1
        simp only [List.getElem?_toArray, List.getElem?_cons_zero, List.getElem?_cons_succ] at y0 y1
        go_simp
      try simp only [List.getElem_toArray, List.getElem_cons_succ, List.getElem_cons_zero, Act.put, List.setIfInBounds_toArray, List.set_cons_zero, List.set_cons_succ]
      refine qc_take (.int .u64 n) (by rfl) (fun W hW => ?_) ?_
      · (try dsimp only at hW)
        go_simp
      try simp only [List.getElem_toArray, List.getElem_cons_succ, List.getElem_cons_zero, Act.put, List.setIfInBounds_toArray, List.set_cons_zero, List.set_cons_succ]
      refine qc_take (.bool true) (by rfl) (fun W hW => ?_) ?_
      · (try dsimp only at hW)
        go_simp
        exact (C1.out W).mono fun e w9 h9 => ⟨h9.1, Sn.below_next hW h9.2 hW.size⟩
      try simp only [List.getElem_toArray, List.getElem_cons_succ, List.getElem_cons_zero, Act.put, List.setIfInBounds_toArray, List.set_cons_zero, List.set_cons_succ]
      refine qc_take (.int .i64 a) (by rfl) (fun W hW => ?_) ?_
      · (try dsimp only at hW)
        go_simp
      try simp only [List.getElem_toArray, List.getElem_cons_succ, List.getElem_cons_zero, Act.put, List.setIfInBounds_toArray, List.set_cons_zero, List.set_cons_succ]
      refine qc_take (.agg #[.int .u64 y1, .int .u64 y2]) (by rfl) (fun W hW => ?_) ?_
      · (try dsimp only at hW)
        have y := Sn.bk_below HR1.out hW (Sn.bk_lt HR1.out)
        have y0 := Sn.bk_c y 0
        have y1 := Sn.bk_c y 1
        simp only [List.getElem?_toArray, List.getElem?_cons_zero, List.getElem?_cons_succ] at y0 y1
        go_simp
      try simp only [List.getElem_toArray, List.getElem_cons_succ, List.getElem_cons_zero, Act.put, List.setIfInBounds_toArray, List.set_cons_zero, List.set_cons_succ]
      refine qc_take (.int .u64 n) (by rfl) (fun W hW => ?_) ?_
      · (try dsimp only at hW)
        go_simp
      try simp only [List.getElem_toArray, List.getElem_cons_succ, List.getElem_cons_zero, Act.put, List.setIfInBounds_toArray, List.set_cons_zero, List.set_cons_succ]
      refine qc_take (.bool true) (by rfl) (fun W hW => ?_) ?_
      · (try dsimp only at hW)
        go_simp
        exact (C2.out W).mono fun e w9 h9 => ⟨h9.1, Sn.below_next hW h9.2 hW.size⟩
      try simp only [List.getElem_toArray, List.getElem_cons_succ, List.getElem_cons_zero, Act.put, List.setIfInBounds_toArray, List.set_cons_zero, List.set_cons_succ]
      refine qc_take (.bool true) (by rfl) (fun W hW => ?_) ?_
      · (try dsimp only at hW)
        go_simp
      try simp only [List.getElem_toArray, List.getElem_cons_succ, List.getElem_cons_zero, Act.put, List.setIfInBounds_toArray, List.set_cons_zero, List.set_cons_succ]
      refine qc_take (.bool true) (by rfl) (fun W hW => ?_) ?_
      · (try dsimp only at hW)
        go_simp
      try simp only [List.getElem_toArray, List.getElem_cons_succ, List.getElem_cons_zero, Act.put, List.setIfInBounds_toArray, List.set_cons_zero, List.set_cons_succ]
      refine wpQuiet_nil ?_
      intro v2 hb
      have hr0 := Sn.bk_below HR0.out hb (Sn.bk_lt HR0.out)
      have hr1 := Sn.bk_below HR1.out hb (Sn.bk_lt HR1.out)
      have hr2 := Sn.bk_below HR2.out hb (Sn.bk_lt HR2.out)
      have hr3 := Sn.bk_below HR3.out hb (Sn.bk_lt HR3.out)
      have hr4 := Sn.bk_below HR4.out hb (Sn.bk_lt HR4.out)
      have hB := Sn.below_next HB.out hb HB.out.size
      clear HB HR0 HR1 HR2 HR3 HR4 hb
      have HB := Lib.hid hB
      have HR0 := Lib.hid hr0
      have HR1 := Lib.hid hr1
      have HR2 := Lib.hid hr2
      have HR3 := Lib.hid hr3
      have HR4 := Lib.hid hr4
      clear hB hr0 hr1 hr2 hr3 hr4
      clear v
      rename World => v
      go_wp2_with fail
      refine qc_all (fun W => Below v.heap.size v W) (by kernel_rfl) (by kernel_rfl) (Below.refl _ _).drew ?_
      refine qc_take (.bool true) (by rfl) (fun W hW => ?_) ?_
      · (try dsimp only at hW)
        go_simp
      try simp only [List.getElem_toArray, List.getElem_cons_succ, List.getElem_cons_zero, Act.put, List.setIfInBounds_toArray, List.set_cons_zero, List.set_cons_succ]
      refine qc_take (.bool true) (by rfl) (fun W hW => ?_) ?_
      · (try dsimp only at hW)
        go_simp
      try simp only [List.getElem_toArray, List.getElem_cons_succ, List.getElem_cons_zero, Act.put, List.setIfInBounds_toArray, List.set_cons_zero, List.set_cons_succ]
      refine qc_take (.bool false) (by rfl) (fun W hW => ?_) ?_
      · (try dsimp only at hW)
        go_simp
      try simp only [List.getElem_toArray, List.getElem_cons_succ, List.getElem_cons_zero, Act.put, List.setIfInBounds_toArray, List.set_cons_zero, List.set_cons_succ]
      refine qc_take (.bool false) (by rfl) (fun W hW => ?_) ?_
      · (try dsimp only at hW)
        go_simp
      try simp only [List.getElem_toArray, List.getElem_cons_succ, List.getElem_cons_zero, Act.put, List.setIfInBounds_toArray, List.set_cons_zero, List.set_cons_succ]
      refine qc_take (.agg #[.int .u64 m1, .int .u64 m2]) (by rfl) (fun W hW => ?_) ?_
      · (try dsimp only at hW)
        have y := Sn.bk_below HR2.out hW (Sn.bk_lt HR2.out)
        have y0 := Sn.bk_c y 0
        have y1 := Sn.bk_c y 1
        simp only [List.getElem?_toArray, List.getElem?_cons_zero, List.getElem?_cons_succ] at y0 y1
        go_simp
      try simp only [List.getElem_toArray, List.getElem_cons_succ, List.getElem_cons_zero, Act.put, List.setIfInBounds_toArray, List.set_cons_zero, List.set_cons_succ]
      refine qc_take (.agg #[.int .u64 m1, .int .u64 m2]) (by rfl) (fun W hW => ?_) ?_
      · (try dsimp only at hW)
        have y := Sn.bk_below HR3.out hW (Sn.bk_lt HR3.out)
        have y0 := Sn.bk_c y 0
        have y1 := Sn.bk_c y 1
        simp only [List.getElem?_toArray, List.getElem?_cons_zero, List.getElem?_cons_succ] at y0 y1
        go_simp
      try simp only [List.getElem_toArray, List.getElem_cons_succ, List.getElem_cons_zero, Act.put, List.setIfInBounds_toArray, List.set_cons_zero, List.set_cons_succ]
      refine qc_take (.bool false) (by rfl) (fun W hW => ?_) ?_
      · (try dsimp only at hW)
        go_simp
      try simp only [List.getElem_toArray, List.getElem_cons_succ, List.getElem_cons_zero, Act.put, List.setIfInBounds_toArray, List.set_cons_zero, List.set_cons_succ]
      refine qc_take (.bool false) (by rfl) (fun W hW => ?_) ?_
      · (try dsimp only at hW)
        go_simp
      try simp only [List.getElem_toArray, List.getElem_cons_succ, List.getElem_cons_zero, Act.put, List.setIfInBounds_toArray, List.set_cons_zero, List.set_cons_succ]
      refine qc_take (.bool false) (by rfl) (fun W hW => ?_) ?_
      · (try dsimp only at hW)
        go_simp
      try simp only [List.getElem_toArray, List.getElem_cons_succ, List.getElem_cons_zero, Act.put, List.setIfInBounds_toArray, List.set_cons_zero, List.set_cons_succ]
      refine qc_take (.agg #[.int .u64 j1, .int .u64 j2]) (by rfl) (fun W hW => ?_) ?_
      · (try dsimp only at hW)
        have y := Sn.bk_below HR4.out hW (Sn.bk_lt HR4.out)
        have y0 := Sn.bk_c y 0
        have y1 := Sn.bk_c y 1
        simp only [List.getElem?_toArray, List.getElem?_cons_zero, List.getElem?_cons_succ] at y0 y1
        go_simp
      try simp only [List.getElem_toArray, List.getElem_cons_succ, List.getElem_cons_zero, Act.put, List.setIfInBounds_toArray, List.set_cons_zero, List.set_cons_succ]
      refine qc_take (.int .i64 a) (by rfl) (fun W hW => ?_) ?_
      · (try dsimp only at hW)
        go_simp
      try simp only [List.getElem_toArray, List.getElem_cons_succ, List.getElem_cons_zero, Act.put, List.setIfInBounds_toArray, List.set_cons_zero, List.set_cons_succ]
      refine qc_take (.agg #[.int .u64 y1, .int .u64 y2]) (by rfl) (fun W hW => ?_) ?_
      · (try dsimp only at hW)
        have y := Sn.bk_below HR1.out hW (Sn.bk_lt HR1.out)
        have y0 := Sn.bk_c y 0
        have y1 := Sn.bk_c y 1
        simp only [List.getElem?_toArray, List.getElem?_cons_zero, List.getElem?_cons_succ] at y0 y1
        go_simp
      try simp only [List.getElem_toArray, List.getElem_cons_succ, List.getElem_cons_zero, Act.put, List.setIfInBounds_toArray, List.set_cons_zero, List.set_cons_succ]
      refine qc_take (.agg #[.int .u64 x1, .int .u64 x2]) (by rfl) (fun W hW => ?_) ?_
      · (try dsimp only at hW)
        have y := Sn.bk_below HR0.out hW (Sn.bk_lt HR0.out)
        have y0 := Sn.bk_c y 0
        have y1 := Sn.bk_c y 1
        simp only [List.getElem?_toArray, List.getElem?_cons_zero, List.getElem?_cons_succ] at y0 y1
        go_simp
      try simp only [List.getElem_toArray, List.getElem_cons_succ, List.getElem_cons_zero, Act.put, List.setIfInBounds_toArray, List.set_cons_zero, List.set_cons_succ]
      refine qc_take (.agg #[.int .u64 j1, .int .u64 j2]) (by rfl) (fun W hW => ?_) ?_
      · (try dsimp only at hW)
        go_simp
        exact (HJ2.out W).mono fun e w9 h9 => ⟨h9.1, Sn.below_next hW h9.2 hW.size⟩
      try simp only [List.getElem_toArray, List.getElem_cons_succ, List.getElem_cons_zero, Act.put, List.setIfInBounds_toArray, List.set_cons_zero, List.set_cons_succ]
      refine qc_take (.bool false) (by rfl) (fun W hW => ?_) ?_
      · (try dsimp only at hW)
        go_simp
      try simp only [List.getElem_toArray, List.getElem_cons_succ, List.getElem_cons_zero, Act.put, List.setIfInBounds_toArray, List.set_cons_zero, List.set_cons_succ]
      refine qc_take (.bool false) (by rfl) (fun W hW => ?_) ?_
      · (try dsimp only at hW)
        go_simp
      try simp only [List.getElem_toArray, List.getElem_cons_succ, List.getElem_cons_zero, Act.put, List.setIfInBounds_toArray, List.set_cons_zero, List.set_cons_succ]
      refine qc_take (.bool false) (by rfl) (fun W hW => ?_) ?_
      · (try dsimp only at hW)
        go_simp
      try simp only [List.getElem_toArray, List.getElem_cons_succ, List.getElem_cons_zero, Act.put, List.setIfInBounds_toArray, List.set_cons_zero, List.set_cons_succ]
      refine qc_take (.bool true) (by rfl) (fun W hW => ?_) ?_
      · (try dsimp only at hW)
        go_simp
      try simp only [List.getElem_toArray, List.getElem_cons_succ, List.getElem_cons_zero, Act.put, List.setIfInBounds_toArray, List.set_cons_zero, List.set_cons_succ]
      refine qc_take (.bool true) (by rfl) (fun W hW => ?_) ?_
      · (try dsimp only at hW)
        go_simp
      try simp only [List.getElem_toArray, List.getElem_cons_succ, List.getElem_cons_zero, Act.put, List.setIfInBounds_toArray, List.set_cons_zero, List.set_cons_succ]
      refine qc_take (.bool true) (by rfl) (fun W hW => ?_) ?_
      · (try dsimp only at hW)
        go_simp
      try simp only [List.getElem_toArray, List.getElem_cons_succ, List.getElem_cons_zero, Act.put, List.setIfInBounds_toArray, List.set_cons_zero, List.set_cons_succ]
      refine qc_take (.bool true) (by rfl) (fun W hW => ?_) ?_
      · (try dsimp only at hW)
        go_simp
      try simp only [List.getElem_toArray, List.getElem_cons_succ, List.getElem_cons_zero, Act.put, List.setIfInBounds_toArray, List.set_cons_zero, List.set_cons_succ]
      refine qc_take (.bool true) (by rfl) (fun W hW => ?_) ?_
      · (try dsimp only at hW)
        go_simp
      try simp only [List.getElem_toArray, List.getElem_cons_succ, List.getElem_cons_zero, Act.put, List.setIfInBounds_toArray, List.set_cons_zero, List.set_cons_succ]
      refine qc_take (.bool true) (by rfl) (fun W hW => ?_) ?_
      · (try dsimp only at hW)
        go_simp
      try simp only [List.getElem_toArray, List.getElem_cons_succ, List.getElem_cons_zero, Act.put, List.setIfInBounds_toArray, List.set_cons_zero, List.set_cons_succ]
      refine qc_take (.int .i64 a) (by rfl) (fun W hW => ?_) ?_
      · (try dsimp only at hW)
        go_simp
      try simp only [List.getElem_toArray, List.getElem_cons_succ, List.getElem_cons_zero, Act.put, List.setIfInBounds_toArray, List.set_cons_zero, List.set_cons_succ]
      refine qc_take (.agg #[.int .u64 m1, .int .u64 m2]) (by rfl) (fun W hW => ?_) ?_
      · (try dsimp only at hW)
        have y := Sn.bk_below HR2.out hW (Sn.bk_lt HR2.out)
        have y0 := Sn.bk_c y 0
        have y1 := Sn.bk_c y 1
        simp only [List.getElem?_toArray, List.getElem?_cons_zero, List.getElem?_cons_succ] at y0 y1
        go_simp
      try simp only [List.getElem_toArray, List.getElem_cons_succ, List.getElem_cons_zero, Act.put, List.setIfInBounds_toArray, List.set_cons_zero, List.set_cons_succ]
      refine qc_take (.int .u64 n) (by rfl) (fun W hW => ?_) ?_
      · (try dsimp only at hW)
        go_simp
      try simp only [List.getElem_toArray, List.getElem_cons_succ, List.getElem_cons_zero, Act.put, List.setIfInBounds_toArray, List.set_cons_zero, List.set_cons_succ]
      refine qc_take (.bool true) (by rfl) (fun W hW => ?_) ?_
      · (try dsimp only at hW)
        go_simp
        exact (C3.out W).mono fun e w9 h9 => ⟨h9.1, Sn.below_next hW h9.2 hW.size⟩
      try simp only [List.getElem_toArray, List.getElem_cons_succ, List.getElem_cons_zero, Act.put, List.setIfInBounds_toArray, List.set_cons_zero, List.set_cons_succ]
      refine qc_take (.bool true) (by rfl) (fun W hW => ?_) ?_
      · (try dsimp only at hW)
        go_simp
      try simp only [List.getElem_toArray, List.getElem_cons_succ, List.getElem_cons_zero, Act.put, List.setIfInBounds_toArray, List.set_cons_zero, List.set_cons_succ]
      refine qc_take (.bool false) (by rfl) (fun W hW => ?_) ?_
      · (try dsimp only at hW)
        go_simp
      try simp only [List.getElem_toArray, List.getElem_cons_succ, List.getElem_cons_zero, Act.put, List.setIfInBounds_toArray, List.set_cons_zero, List.set_cons_succ]
      refine qc_take (.bool false) (by rfl) (fun W hW => ?_) ?_
      · (try dsimp only at hW)
        go_simp
      try simp only [List.getElem_toArray, List.getElem_cons_succ, List.getElem_cons_zero, Act.put, List.setIfInBounds_toArray, List.set_cons_zero, List.set_cons_succ]
      refine wpQuiet_nil ?_
      intro v2 hb
      have hr0 := Sn.bk_below HR0.out hb (Sn.bk_lt HR0.out)
      have hr1 := Sn.bk_below HR1.out hb (Sn.bk_lt HR1.out)
      have hr2 := Sn.bk_below HR2.out hb (Sn.bk_lt HR2.out)
      have hr3 := Sn.bk_below HR3.out hb (Sn.bk_lt HR3.out)
      have hr4 := Sn.bk_below HR4.out hb (Sn.bk_lt HR4.out)
      have hB := Sn.below_next HB.out hb HB.out.size
      clear HB HR0 HR1 HR2 HR3 HR4 hb
      have HB := Lib.hid hB
      have HR0 := Lib.hid hr0
      have HR1 := Lib.hid hr1
      have HR2 := Lib.hid hr2
      have HR3 := Lib.hid hr3
      have HR4 := Lib.hid hr4
      clear hB hr0 hr1 hr2 hr3 hr4
      clear v
      rename World => v
      go_wp2_with fail
      refine qc_all (fun W => Below v.heap.size v W) (by kernel_rfl) (by kernel_rfl) (Below.refl _ _).drew ?_
      refine qc_take (.bool true) (by rfl) (fun W hW => ?_) ?_
      · (try dsimp only at hW)
        go_simp
      try simp only [List.getElem_toArray, List.getElem_cons_succ, List.getElem_cons_zero, Act.put, List.setIfInBounds_toArray, List.set_cons_zero, List.set_cons_succ]
      refine qc_take (.bool false) (by rfl) (fun W hW => ?_) ?_
      · (try dsimp only at hW)
        go_simp
      try simp only [List.getElem_toArray, List.getElem_cons_succ, List.getElem_cons_zero, Act.put, List.setIfInBounds_toArray, List.set_cons_zero, List.set_cons_succ]
      refine qc_take (.bool false) (by rfl) (fun W hW => ?_) ?_
      · (try dsimp only at hW)
        go_simp
      try simp only [List.getElem_toArray, List.getElem_cons_succ, List.getElem_cons_zero, Act.put, List.setIfInBounds_toArray, List.set_cons_zero, List.set_cons_succ]
      refine qc_skip (by rfl) ?_
      try simp only [List.getElem_toArray, List.getElem_cons_succ, List.getElem_cons_zero, Act.put, List.setIfInBounds_toArray, List.set_cons_zero, List.set_cons_succ]
      refine qc_skip (by rfl) ?_
      try simp only [List.getElem_toArray, List.getElem_cons_succ, List.getElem_cons_zero, Act.put, List.setIfInBounds_toArray, List.set_cons_zero, List.set_cons_succ]
      refine qc_take (.bool false) (by rfl) (fun W hW => ?_) ?_
      · (try dsimp only at hW)
        go_simp
      try simp only [List.getElem_toArray, List.getElem_cons_succ, List.getElem_cons_zero, Act.put, List.setIfInBounds_toArray, List.set_cons_zero, List.set_cons_succ]
      refine qc_take (.bool false) (by rfl) (fun W hW => ?_) ?_
      · (try dsimp only at hW)
        go_simp
      try simp only [List.getElem_toArray, List.getElem_cons_succ, List.getElem_cons_zero, Act.put, List.setIfInBounds_toArray, List.set_cons_zero, List.set_cons_succ]
      refine qc_take (.int .i64 a) (by rfl) (fun W hW => ?_) ?_
      · (try dsimp only at hW)
        go_simp
      try simp only [List.getElem_toArray, List.getElem_cons_succ, List.getElem_cons_zero, Act.put, List.setIfInBounds_toArray, List.set_cons_zero, List.set_cons_succ]
      refine qc_take (.agg #[.int .u64 j1, .int .u64 j2]) (by rfl) (fun W hW => ?_) ?_
      · (try dsimp only at hW)
        have y := Sn.bk_below HR4.out hW (Sn.bk_lt HR4.out)
        have y0 := Sn.bk_c y 0
        have y1 := Sn.bk_c y 1
        simp only [List.getElem?_toArray, List.getElem?_cons_zero, List.getElem?_cons_succ] at y0 y1
        go_simp
      try simp only [List.getElem_toArray, List.getElem_cons_succ, List.getElem_cons_zero, Act.put, List.setIfInBounds_toArray, List.set_cons_zero, List.set_cons_succ]
      refine qc_take (.int .u64 n) (by rfl) (fun W hW => ?_) ?_
      · (try dsimp only at hW)
        go_simp
      try simp only [List.getElem_toArray, List.getElem_cons_succ, List.getElem_cons_zero, Act.put, List.setIfInBounds_toArray, List.set_cons_zero, List.set_cons_succ]
      refine qc_take (.bool true) (by rfl) (fun W hW => ?_) ?_
      · (try dsimp only at hW)
        go_simp
        exact (C6.out W).mono fun e w9 h9 => ⟨h9.1, Sn.below_next hW h9.2 hW.size⟩
      try simp only [List.getElem_toArray, List.getElem_cons_succ, List.getElem_cons_zero, Act.put, List.setIfInBounds_toArray, List.set_cons_zero, List.set_cons_succ]
      refine qc_take (.bool true) (by rfl) (fun W hW => ?_) ?_
      · (try dsimp only at hW)
        go_simp
      try simp only [List.getElem_toArray, List.getElem_cons_succ, List.getElem_cons_zero, Act.put, List.setIfInBounds_toArray, List.set_cons_zero, List.set_cons_succ]
      refine qc_take (.bool true) (by rfl) (fun W hW => ?_) ?_
      · (try dsimp only at hW)
        go_simp
      try simp only [List.getElem_toArray, List.getElem_cons_succ, List.getElem_cons_zero, Act.put, List.setIfInBounds_toArray, List.set_cons_zero, List.set_cons_succ]
      refine qc_take (.int .i64 a) (by rfl) (fun W hW => ?_) ?_
      · (try dsimp only at hW)
        go_simp
      try simp only [List.getElem_toArray, List.getElem_cons_succ, List.getElem_cons_zero, Act.put, List.setIfInBounds_toArray, List.set_cons_zero, List.set_cons_succ]
      refine qc_take (.agg #[.int .u64 j1, .int .u64 j2]) (by rfl) (fun W hW => ?_) ?_
      · (try dsimp only at hW)
        have y := Sn.bk_below HR4.out hW (Sn.bk_lt HR4.out)
        have y0 := Sn.bk_c y 0
        have y1 := Sn.bk_c y 1
        simp only [List.getElem?_toArray, List.getElem?_cons_zero, List.getElem?_cons_succ] at y0 y1
        go_simp
      try simp only [List.getElem_toArray, List.getElem_cons_succ, List.getElem_cons_zero, Act.put, List.setIfInBounds_toArray, List.set_cons_zero, List.set_cons_succ]
      refine qc_take (.int .i64 a) (by rfl) (fun W hW => ?_) ?_
      · (try dsimp only at hW)
        go_simp
      try simp only [List.getElem_toArray, List.getElem_cons_succ, List.getElem_cons_zero, Act.put, List.setIfInBounds_toArray, List.set_cons_zero, List.set_cons_succ]
      refine qc_take (.agg #[.int .u64 x1, .int .u64 x2]) (by rfl) (fun W hW => ?_) ?_
      · (try dsimp only at hW)
        have y := Sn.bk_below HR0.out hW (Sn.bk_lt HR0.out)
        have y0 := Sn.bk_c y 0
        have y1 := Sn.bk_c y 1
        simp only [List.getElem?_toArray, List.getElem?_cons_zero, List.getElem?_cons_succ] at y0 y1
        go_simp
      try simp only [List.getElem_toArray, List.getElem_cons_succ, List.getElem_cons_zero, Act.put, List.setIfInBounds_toArray, List.set_cons_zero, List.set_cons_succ]
      refine qc_take (.agg #[.int .u64 p1, .int .u64 p2]) (by rfl) (fun W hW => ?_) ?_
      · (try dsimp only at hW)
        go_simp
        exact (HX.out W).mono fun e w9 h9 => ⟨h9.1, Sn.below_next hW h9.2 hW.size⟩
      try simp only [List.getElem_toArray, List.getElem_cons_succ, List.getElem_cons_zero, Act.put, List.setIfInBounds_toArray, List.set_cons_zero, List.set_cons_succ]
      refine qc_take (.int .u64 p1) (by rfl) (fun W hW => ?_) ?_
      · (try dsimp only at hW)
        go_simp
        simp [sp_fd0, sp_fd1]
      try simp only [List.getElem_toArray, List.getElem_cons_succ, List.getElem_cons_zero, Act.put, List.setIfInBounds_toArray, List.set_cons_zero, List.set_cons_succ]
      refine qc_take (.bool true) (by rfl) (fun W hW => ?_) ?_
      · (try dsimp only at hW)
        go_simp
        exact (C4.out W).mono fun e w9 h9 => ⟨h9.1, Sn.below_next hW h9.2 hW.size⟩
      try simp only [List.getElem_toArray, List.getElem_cons_succ, List.getElem_cons_zero, Act.put, List.setIfInBounds_toArray, List.set_cons_zero, List.set_cons_succ]
      refine qc_take (.bool true) (by rfl) (fun W hW => ?_) ?_
      · (try dsimp only at hW)
        go_simp
      try simp only [List.getElem_toArray, List.getElem_cons_succ, List.getElem_cons_zero, Act.put, List.setIfInBounds_toArray, List.set_cons_zero, List.set_cons_succ]
      refine qc_take (.bool true) (by rfl) (fun W hW => ?_) ?_
      · (try dsimp only at hW)
        go_simp
      try simp only [List.getElem_toArray, List.getElem_cons_succ, List.getElem_cons_zero, Act.put, List.setIfInBounds_toArray, List.set_cons_zero, List.set_cons_succ]
      refine qc_take (.int .i64 a) (by rfl) (fun W hW => ?_) ?_
      · (try dsimp only at hW)
        go_simp
      try simp only [List.getElem_toArray, List.getElem_cons_succ, List.getElem_cons_zero, Act.put, List.setIfInBounds_toArray, List.set_cons_zero, List.set_cons_succ]
      refine qc_take (.agg #[.int .u64 j1, .int .u64 j2]) (by rfl) (fun W hW => ?_) ?_
      · (try dsimp only at hW)
        have y := Sn.bk_below HR4.out hW (Sn.bk_lt HR4.out)
        have y0 := Sn.bk_c y 0
        have y1 := Sn.bk_c y 1
        simp only [List.getElem?_toArray, List.getElem?_cons_zero, List.getElem?_cons_succ] at y0 y1
        go_simp
      try simp only [List.getElem_toArray, List.getElem_cons_succ, List.getElem_cons_zero, Act.put, List.setIfInBounds_toArray, List.set_cons_zero, List.set_cons_succ]
      refine qc_take (.int .i64 a) (by rfl) (fun W hW => ?_) ?_
      · (try dsimp only at hW)
        go_simp
      try simp only [List.getElem_toArray, List.getElem_cons_succ, List.getElem_cons_zero, Act.put, List.setIfInBounds_toArray, List.set_cons_zero, List.set_cons_succ]
      refine qc_take (.agg #[.int .u64 y1, .int .u64 y2]) (by rfl) (fun W hW => ?_) ?_
      · (try dsimp only at hW)
        have y := Sn.bk_below HR1.out hW (Sn.bk_lt HR1.out)
        have y0 := Sn.bk_c y 0
        have y1 := Sn.bk_c y 1
        simp only [List.getElem?_toArray, List.getElem?_cons_zero, List.getElem?_cons_succ] at y0 y1
        go_simp
      try simp only [List.getElem_toArray, List.getElem_cons_succ, List.getElem_cons_zero, Act.put, List.setIfInBounds_toArray, List.set_cons_zero, List.set_cons_succ]
      refine qc_take (.agg #[.int .u64 q1, .int .u64 q2]) (by rfl) (fun W hW => ?_) ?_
      · (try dsimp only at hW)
        go_simp
        exact (HY.out W).mono fun e w9 h9 => ⟨h9.1, Sn.below_next hW h9.2 hW.size⟩
      try simp only [List.getElem_toArray, List.getElem_cons_succ, List.getElem_cons_zero, Act.put, List.setIfInBounds_toArray, List.set_cons_zero, List.set_cons_succ]
      refine qc_take (.int .u64 q2) (by rfl) (fun W hW => ?_) ?_
      · (try dsimp only at hW)
        go_simp
        simp [sp_fd0, sp_fd1]
      try simp only [List.getElem_toArray, List.getElem_cons_succ, List.getElem_cons_zero, Act.put, List.setIfInBounds_toArray, List.set_cons_zero, List.set_cons_succ]
      refine qc_take (.bool true) (by rfl) (fun W hW => ?_) ?_
      · (try dsimp only at hW)
        go_simp
        exact (C5.out W).mono fun e w9 h9 => ⟨h9.1, Sn.below_next hW h9.2 hW.size⟩
      try simp only [List.getElem_toArray, List.getElem_cons_succ, List.getElem_cons_zero, Act.put, List.setIfInBounds_toArray, List.set_cons_zero, List.set_cons_succ]
      refine qc_take (.bool true) (by rfl) (fun W hW => ?_) ?_
      · (try dsimp only at hW)
        go_simp
      try simp only [List.getElem_toArray, List.getElem_cons_succ, List.getElem_cons_zero, Act.put, List.setIfInBounds_toArray, List.set_cons_zero, List.set_cons_succ]
      refine qc_take (.bool true) (by rfl) (fun W hW => ?_) ?_
      · (try dsimp only at hW)
        go_simp
      try simp only [List.getElem_toArray, List.getElem_cons_succ, List.getElem_cons_zero, Act.put, List.setIfInBounds_toArray, List.set_cons_zero, List.set_cons_succ]
      refine wpQuiet_nil ?_
      intro v2 hb
      have hr0 := Sn.bk_below HR0.out hb (Sn.bk_lt HR0.out)
      have hB := Sn.below_next HB.out hb HB.out.size
      clear HB HR0 hb
      have HB := Lib.hid hB
      have HR0 := Lib.hid hr0
      clear hB hr0
      go_wp2_with fail
      go_ret
      exact ⟨rfl, HB.out⟩
    | false =>
      cases ok with
      | false =>
        have hC1 : Sn.has a (x1, x2) n = true := d1
        have hC2 : Sn.has a (y1, y2) n = false := d2
        clear d1 d2
        have C1 : Hid (∀ W : World, Calls Try.prog 13 #[.int .i64 a, Sn.v (x1, x2), .int .u64 n] W fun e w' => e = .returned (.bool true) ∧ Below W.heap.size W w') := Lib.hid (fun W => by
          have h := has_any a (x1, x2) n W
          rw [hC1] at h
          exact h)
        have C2 : Hid (∀ W : World, Calls Try.prog 13 #[.int .i64 a, Sn.v (y1, y2), .int .u64 n] W fun e w' => e = .returned (.bool false) ∧ Below W.heap.size W w') := Lib.hid (fun W => by
          have h := has_any a (y1, y2) n W
          rw [hC2] at h
          exact h)
        have C4 : Hid (∀ W : World, Calls Try.prog 13 #[.int .i64 a, Sn.v (j1, j2), .int .u64 p1] W fun e w' => e = .returned (.bool true) ∧ Below W.heap.size W w') := Lib.hid (fun W => by
          have h := has_any a (j1, j2) p1 W
          rw [f3] at h
          exact h)
        have C5 : Hid (∀ W : World, Calls Try.prog 13 #[.int .i64 a, Sn.v (j1, j2), .int .u64 q2] W fun e w' => e = .returned (.bool true) ∧ Below W.heap.size W w') := Lib.hid (fun W => by
          have h := has_any a (j1, j2) q2 W
          rw [f4] at h
          exact h)
        have hC6 : Sn.has a (j1, j2) n = true := f2 (.inl hC1)
        have C6 : Hid (∀ W : World, Calls Try.prog 13 #[.int .i64 a, Sn.v (j1, j2), .int .u64 n] W fun e w' => e = .returned (.bool true) ∧ Below W.heap.size W w') := Lib.hid (fun W => by
          have h := has_any a (j1, j2) n W
          rw [hC6] at h
          exact h)
        clear hC6
        clear hC1 hC2 f1 f2 f3 f4
        show Calls Try.prog 5 #[.int .i64 a, .agg #[.int .u64 x1, .int .u64 x2], .agg #[.int .u64 y1, .int .u64 y2], .int .u64 n] w _
        go_enter Try.func5, Try.ntmps5
        go_upto_region 1 with (fail)
        have hB : Below w.heap.size w ((w.alloc (.cells #[.int .u64 x1, .int .u64 x2] 24)).alloc (.cells #[.int .u64 y1, .int .u64 y2] 24)) := (((Below.refl _ _).alloc (Nat.le_refl _) _).alloc (by simp) _)
        have hr0 : Sn.Bk ((w.alloc (.cells #[.int .u64 x1, .int .u64 x2] 24)).alloc (.cells #[.int .u64 y1, .int .u64 y2] 24)) (w.heap.size) 24 #[.int .u64 x1, .int .u64 x2] := Sn.bk_old (Sn.bk_new _ _ _) _
        have hr1 : Sn.Bk ((w.alloc (.cells #[.int .u64 x1, .int .u64 x2] 24)).alloc (.cells #[.int .u64 y1, .int .u64 y2] 24)) (w.heap.size + 1) 24 #[.int .u64 y1, .int .u64 y2] := Sn.bk_at (by simp)
        generalize ((w.alloc (.cells #[.int .u64 x1, .int .u64 x2] 24)).alloc (.cells #[.int .u64 y1, .int .u64 y2] 24)) = v at *
        have HB := Lib.hid hB
        have HR0 := Lib.hid hr0
        have HR1 := Lib.hid hr1
        clear hB hr0 hr1
        go_wp2_with fail
        refine (sn_awake v).mono ?_
        rintro e v2 ⟨rfl, hb⟩
        have hr0 := Sn.bk_below HR0.out hb (Sn.bk_lt HR0.out)
        have hr1 := Sn.bk_below HR1.out hb (Sn.bk_lt HR1.out)
        have hB := Sn.below_next HB.out hb HB.out.size
        clear HB HR0 HR1 hb
        have HB := Lib.hid hB
        have HR0 := Lib.hid hr0
        have HR1 := Lib.hid hr1
        clear hB hr0 hr1
        clear v
        rename World => v
        have c0_0 := Sn.bk_c HR0.out 0
        have c0_1 := Sn.bk_c HR0.out 1
        have c1_0 := Sn.bk_c HR1.out 0
        have c1_1 := Sn.bk_c HR1.out 1
        simp only [List.getElem?_toArray, List.getElem?_cons_zero, List.getElem?_cons_succ] at c0_0 c0_1 c1_0 c1_1
        go_wp2_with fail
        clear c0_0 c0_1 c1_0 c1_1
        refine (HM.out v).mono ?_
        rintro e v2 ⟨rfl, hb⟩
        have hr0 := Sn.bk_below HR0.out hb (Sn.bk_lt HR0.out)
        have hr1 := Sn.bk_below HR1.out hb (Sn.bk_lt HR1.out)
        have hB := Sn.below_next HB.out hb HB.out.size
        clear HB HR0 HR1 hb
        have HB := Lib.hid hB
        have HR0 := Lib.hid hr0
        have HR1 := Lib.hid hr1
        clear hB hr0 hr1
        clear v
        rename World => v
        go_upto_region 4 with (fail)
        have hB : Below w.heap.size w (v.alloc (.cells #[.int .u64 m1, .int .u64 m2] 24)) := (HB.out).alloc (by exact HB.out.size) _
        have hr0 : Sn.Bk (v.alloc (.cells #[.int .u64 m1, .int .u64 m2] 24)) (w.heap.size) 24 #[.int .u64 x1, .int .u64 x2] := Sn.bk_old (HR0.out) _
        have hr1 : Sn.Bk (v.alloc (.cells #[.int .u64 m1, .int .u64 m2] 24)) (w.heap.size + 1) 24 #[.int .u64 y1, .int .u64 y2] := Sn.bk_old (HR1.out) _
        have hr2 : Sn.Bk (v.alloc (.cells #[.int .u64 m1, .int .u64 m2] 24)) (v.heap.size) 24 #[.int .u64 m1, .int .u64 m2] := Sn.bk_new _ _ _
        clear HB HR0 HR1
        generalize (v.alloc (.cells #[.int .u64 m1, .int .u64 m2] 24)) = u at *
        generalize v.heap.size = b3 at *
        clear v
        rename World => v
        have HB := Lib.hid hB
        have HR0 := Lib.hid hr0
        have HR1 := Lib.hid hr1
        have HR2 := Lib.hid hr2
        clear hB hr0 hr1 hr2
        have c0_0 := Sn.bk_c HR0.out 0
        have c0_1 := Sn.bk_c HR0.out 1
        have c1_0 := Sn.bk_c HR1.out 0
        have c1_1 := Sn.bk_c HR1.out 1
        simp only [List.getElem?_toArray, List.getElem?_cons_zero, List.getElem?_cons_succ] at c0_0 c0_1 c1_0 c1_1
        go_wp2_with fail
        clear c0_0 c0_1 c1_0 c1_1
        refine (HM2.out v).mono ?_
        rintro e v2 ⟨rfl, hb⟩
        have hr0 := Sn.bk_below HR0.out hb (Sn.bk_lt HR0.out)
        have hr1 := Sn.bk_below HR1.out hb (Sn.bk_lt HR1.out)
        have hr2 := Sn.bk_below HR2.out hb (Sn.bk_lt HR2.out)
        have hB := Sn.below_next HB.out hb HB.out.size
        clear HB HR0 HR1 HR2 hb
        have HB := Lib.hid hB
        have HR0 := Lib.hid hr0
        have HR1 := Lib.hid hr1
        have HR2 := Lib.hid hr2
        clear hB hr0 hr1 hr2
        clear v
        rename World => v
        go_upto_region 5 with (fail)
        have hB : Below w.heap.size w (v.alloc (.cells #[.int .u64 m1, .int .u64 m2] 24)) := (HB.out).alloc (by exact HB.out.size) _
        have hr0 : Sn.Bk (v.alloc (.cells #[.int .u64 m1, .int .u64 m2] 24)) (w.heap.size) 24 #[.int .u64 x1, .int .u64 x2] := Sn.bk_old (HR0.out) _
        have hr1 : Sn.Bk (v.alloc (.cells #[.int .u64 m1, .int .u64 m2] 24)) (w.heap.size + 1) 24 #[.int .u64 y1, .int .u64 y2] := Sn.bk_old (HR1.out) _
        have hr2 : Sn.Bk (v.alloc (.cells #[.int .u64 m1, .int .u64 m2] 24)) (b3) 24 #[.int .u64 m1, .int .u64 m2] := Sn.bk_old (HR2.out) _
        have hr3 : Sn.Bk (v.alloc (.cells #[.int .u64 m1, .int .u64 m2] 24)) (v.heap.size) 24 #[.int .u64 m1, .int .u64 m2] := Sn.bk_new _ _ _
        clear HB HR0 HR1 HR2
        generalize (v.alloc (.cells #[.int .u64 m1, .int .u64 m2] 24)) = u at *
        generalize v.heap.size = b4 at *
        clear v
        rename World => v
        have HB := Lib.hid hB
        have HR0 := Lib.hid hr0
        have HR1 := Lib.hid hr1
        have HR2 := Lib.hid hr2
        have HR3 := Lib.hid hr3
        clear hB hr0 hr1 hr2 hr3
        have c0_0 := Sn.bk_c HR0.out 0
        have c0_1 := Sn.bk_c HR0.out 1
        have c1_0 := Sn.bk_c HR1.out 0
        have c1_1 := Sn.bk_c HR1.out 1
        simp only [List.getElem?_toArray, List.getElem?_cons_zero, List.getElem?_cons_succ] at c0_0 c0_1 c1_0 c1_1
        go_wp2_with fail
        clear c0_0 c0_1 c1_0 c1_1
        refine (HJ.out v).mono ?_
        rintro e v2 ⟨rfl, hb⟩
        have hr0 := Sn.bk_below HR0.out hb (Sn.bk_lt HR0.out)
        have hr1 := Sn.bk_below HR1.out hb (Sn.bk_lt HR1.out)
        have hr2 := Sn.bk_below HR2.out hb (Sn.bk_lt HR2.out)
        have hr3 := Sn.bk_below HR3.out hb (Sn.bk_lt HR3.out)
        have hB := Sn.below_next HB.out hb HB.out.size
        clear HB HR0 HR1 HR2 HR3 hb
        have HB := Lib.hid hB
        have HR0 := Lib.hid hr0
        have HR1 := Lib.hid hr1
        have HR2 := Lib.hid hr2
        have HR3 := Lib.hid hr3
        clear hB hr0 hr1 hr2 hr3
        clear v
        rename World => v
        go_upto_region 6 with (fail)
        have hB : Below w.heap.size w (v.alloc (.cells #[.int .u64 j1, .int .u64 j2] 24)) := (HB.out).alloc (by exact HB.out.size) _
        have hr0 : Sn.Bk (v.alloc (.cells #[.int .u64 j1, .int .u64 j2] 24)) (w.heap.size) 24 #[.int .u64 x1, .int .u64 x2] := Sn.bk_old (HR0.out) _
        have hr1 : Sn.Bk (v.alloc (.cells #[.int .u64 j1, .int .u64 j2] 24)) (w.heap.size + 1) 24 #[.int .u64 y1, .int .u64 y2] := Sn.bk_old (HR1.out) _
        have hr2 : Sn.Bk (v.alloc (.cells #[.int .u64 j1, .int .u64 j2] 24)) (b3) 24 #[.int .u64 m1, .int .u64 m2] := Sn.bk_old (HR2.out) _
        have hr3 : Sn.Bk (v.alloc (.cells #[.int .u64 j1, .int .u64 j2] 24)) (b4) 24 #[.int .u64 m1, .int .u64 m2] := Sn.bk_old (HR3.out) _
        have hr4 : Sn.Bk (v.alloc (.cells #[.int .u64 j1, .int .u64 j2] 24)) (v.heap.size) 24 #[.int .u64 j1, .int .u64 j2] := Sn.bk_new _ _ _
        clear HB HR0 HR1 HR2 HR3
        generalize (v.alloc (.cells #[.int .u64 j1, .int .u64 j2] 24)) = u at *
        generalize v.heap.size = b5 at *
        clear v
        rename World => v
        have HB := Lib.hid hB
        have HR0 := Lib.hid hr0
        have HR1 := Lib.hid hr1
        have HR2 := Lib.hid hr2
        have HR3 := Lib.hid hr3
        have HR4 := Lib.hid hr4
        clear hB hr0 hr1 hr2 hr3 hr4
        refine qc_all (fun W => Below v.heap.size v W) (by kernel_rfl) (by kernel_rfl) (Below.refl _ _).drew ?_
        refine qc_take (.int .i64 a) (by rfl) (fun W hW => ?_) ?_
        · (try dsimp only at hW)
          go_simp
        try simp only [List.getElem_toArray, List.getElem_cons_succ, List.getElem_cons_zero, Act.put, List.setIfInBounds_toArray, List.set_cons_zero, List.set_cons_succ]
        refine qc_take (.agg #[.int .u64 x1, .int .u64 x2]) (by rfl) (fun W hW => ?_) ?_
        · (try dsimp only at hW)
          have y := Sn.bk_below HR0.out hW (Sn.bk_lt HR0.out)
          have y0 := Sn.bk_c y 0
          have y1 := Sn.bk_c y 1
          simp only [List.getElem?_toArray, List.getElem?_cons_zero, List.getElem?_cons_succ] at y0 y1
          go_simp
        try simp only [List.getElem_toArray, List.getElem_cons_succ, List.getElem_cons_zero, Act.put, List.setIfInBounds_toArray, List.set_cons_zero, List.set_cons_succ]
        refine qc_take (.int .u64 n) (by rfl) (fun W hW => ?_) ?_
        · (try dsimp only at hW)
          go_simp
        try simp only [List.getElem_toArray, List.getElem_cons_succ, List.getElem_cons_zero, Act.put, List.setIfInBounds_toArray, List.set_cons_zero, List.set_cons_succ]
        refine qc_take (.bool true) (by rfl) (fun W hW => ?_) ?_
        · (try dsimp only at hW)
          go_simp
          exact (C1.out W).mono fun e w9 h9 => ⟨h9.1, Sn.below_next hW h9.2 hW.size⟩
        try simp only [List.getElem_toArray, List.getElem_cons_succ, List.getElem_cons_zero, Act.put, List.setIfInBounds_toArray, List.set_cons_zero, List.set_cons_succ]
        refine qc_take (.int .i64 a) (by rfl) (fun W hW => ?_) ?_
        · (try dsimp only at hW)
          go_simp
        try simp only [List.getElem_toArray, List.getElem_cons_succ, List.getElem_cons_zero, Act.put, List.setIfInBounds_toArray, List.set_cons_zero, List.set_cons_succ]
        refine qc_take (.agg #[.int .u64 y1, .int .u64 y2]) (by rfl) (fun W hW => ?_) ?_
        · (try dsimp only at hW)
          have y := Sn.bk_below HR1.out hW (Sn.bk_lt HR1.out)
          have y0 := Sn.bk_c y 0
          have y1 := Sn.bk_c y 1
          simp only [List.getElem?_toArray, List.getElem?_cons_zero, List.getElem?_cons_succ] at y0 y1
          go_simp
        try simp only [List.getElem_toArray, List.getElem_cons_succ, List.getElem_cons_zero, Act.put, List.setIfInBounds_toArray, List.set_cons_zero, List.set_cons_succ]
        refine qc_take (.int .u64 n) (by rfl) (fun W hW => ?_) ?_
        · (try dsimp only at hW)
          go_simp
        try simp only [List.getElem_toArray, List.getElem_cons_succ, List.getElem_cons_zero, Act.put, List.setIfInBounds_toArray, List.set_cons_zero, List.set_cons_succ]
        refine qc_take (.bool false) (by rfl) (fun W hW => ?_) ?_
        · (try dsimp only at hW)
          go_simp
          exact (C2.out W).mono fun e w9 h9 => ⟨h9.1, Sn.below_next hW h9.2 hW.size⟩
        try simp only [List.getElem_toArray, List.getElem_cons_succ, List.getElem_cons_zero, Act.put, List.setIfInBounds_toArray, List.set_cons_zero, List.set_cons_succ]
        refine qc_take (.bool true) (by rfl) (fun W hW => ?_) ?_
        · (try dsimp only at hW)
          go_simp
        try simp only [List.getElem_toArray, List.getElem_cons_succ, List.getElem_cons_zero, Act.put, List.setIfInBounds_toArray, List.set_cons_zero, List.set_cons_succ]
        refine qc_take (.bool false) (by rfl) (fun W hW => ?_) ?_
        · (try dsimp only at hW)
          go_simp
        try simp only [List.getElem_toArray, List.getElem_cons_succ, List.getElem_cons_zero, Act.put, List.setIfInBounds_toArray, List.set_cons_zero, List.set_cons_succ]
        refine wpQuiet_nil ?_
        intro v2 hb
        have hr0 := Sn.bk_below HR0.out hb (Sn.bk_lt HR0.out)
        have hr1 := Sn.bk_below HR1.out hb (Sn.bk_lt HR1.out)
        have hr2 := Sn.bk_below HR2.out hb (Sn.bk_lt HR2.out)
        have hr3 := Sn.bk_below HR3.out hb (Sn.bk_lt HR3.out)
        have hr4 := Sn.bk_below HR4.out hb (Sn.bk_lt HR4.out)
        have hB := Sn.below_next HB.out hb HB.out.size
        clear HB HR0 HR1 HR2 HR3 HR4 hb
        have HB := Lib.hid hB
        have HR0 := Lib.hid hr0
        have HR1 := Lib.hid hr1
        have HR2 := Lib.hid hr2
        have HR3 := Lib.hid hr3
        have HR4 := Lib.hid hr4
        clear hB hr0 hr1 hr2 hr3 hr4
        clear v
        rename World => v
        go_wp2_with fail
        refine qc_all (fun W => Below v.heap.size v W) (by kernel_rfl) (by kernel_rfl) (Below.refl _ _).drew ?_
        refine qc_take (.bool false) (by rfl) (fun W hW => ?_) ?_
        · (try dsimp only at hW)
          go_simp
        try simp only [List.getElem_toArray, List.getElem_cons_succ, List.getElem_cons_zero, Act.put, List.setIfInBounds_toArray, List.set_cons_zero, List.set_cons_succ]
        refine qc_take (.bool false) (by rfl) (fun W hW => ?_) ?_
        · (try dsimp only at hW)
          go_simp
        try simp only [List.getElem_toArray, List.getElem_cons_succ, List.getElem_cons_zero, Act.put, List.setIfInBounds_toArray, List.set_cons_zero, List.set_cons_succ]
        refine qc_take (.bool false) (by rfl) (fun W hW => ?_) ?_
        · (try dsimp only at hW)
          go_simp
        try simp only [List.getElem_toArray, List.getElem_cons_succ, List.getElem_cons_zero, Act.put, List.setIfInBounds_toArray, List.set_cons_zero, List.set_cons_succ]
        refine qc_take (.bool false) (by rfl) (fun W hW => ?_) ?_
        · (try dsimp only at hW)
          go_simp
        try simp only [List.getElem_toArray, List.getElem_cons_succ, List.getElem_cons_zero, Act.put, List.setIfInBounds_toArray, List.set_cons_zero, List.set_cons_succ]
        refine qc_take (.agg #[.int .u64 m1, .int .u64 m2]) (by rfl) (fun W hW => ?_) ?_
        · (try dsimp only at hW)
          have y := Sn.bk_below HR2.out hW (Sn.bk_lt HR2.out)
          have y0 := Sn.bk_c y 0
          have y1 := Sn.bk_c y 1
          simp only [List.getElem?_toArray, List.getElem?_cons_zero, List.getElem?_cons_succ] at y0 y1
          go_simp
        try simp only [List.getElem_toArray, List.getElem_cons_succ, List.getElem_cons_zero, Act.put, List.setIfInBounds_toArray, List.set_cons_zero, List.set_cons_succ]
        refine qc_take (.agg #[.int .u64 m1, .int .u64 m2]) (by rfl) (fun W hW => ?_) ?_
        · (try dsimp only at hW)
          have y := Sn.bk_below HR3.out hW (Sn.bk_lt HR3.out)
          have y0 := Sn.bk_c y 0
          have y1 := Sn.bk_c y 1
          simp only [List.getElem?_toArray, List.getElem?_cons_zero, List.getElem?_cons_succ] at y0 y1
          go_simp
        try simp only [List.getElem_toArray, List.getElem_cons_succ, List.getElem_cons_zero, Act.put, List.setIfInBounds_toArray, List.set_cons_zero, List.set_cons_succ]
        refine qc_take (.bool false) (by rfl) (fun W hW => ?_) ?_
        · (try dsimp only at hW)
          go_simp
        try simp only [List.getElem_toArray, List.getElem_cons_succ, List.getElem_cons_zero, Act.put, List.setIfInBounds_toArray, List.set_cons_zero, List.set_cons_succ]
        refine qc_take (.bool false) (by rfl) (fun W hW => ?_) ?_
        · (try dsimp only at hW)
          go_simp
        try simp only [List.getElem_toArray, List.getElem_cons_succ, List.getElem_cons_zero, Act.put, List.setIfInBounds_toArray, List.set_cons_zero, List.set_cons_succ]
        refine qc_take (.bool false) (by rfl) (fun W hW => ?_) ?_
        · (try dsimp only at hW)
          go_simp
        try simp only [List.getElem_toArray, List.getElem_cons_succ, List.getElem_cons_zero, Act.put, List.setIfInBounds_toArray, List.set_cons_zero, List.set_cons_succ]
        refine qc_take (.agg #[.int .u64 j1, .int .u64 j2]) (by rfl) (fun W hW => ?_) ?_
        · (try dsimp only at hW)
          have y := Sn.bk_below HR4.out hW (Sn.bk_lt HR4.out)
          have y0 := Sn.bk_c y 0
          have y1 := Sn.bk_c y 1
          simp only [List.getElem?_toArray, List.getElem?_cons_zero, List.getElem?_cons_succ] at y0 y1
          go_simp
        try simp only [List.getElem_toArray, List.getElem_cons_succ, List.getElem_cons_zero, Act.put, List.setIfInBounds_toArray, List.set_cons_zero, List.set_cons_succ]
        refine qc_take (.int .i64 a) (by rfl) (fun W hW => ?_) ?_
        · (try dsimp only at hW)
          go_simp
        try simp only [List.getElem_toArray, List.getElem_cons_succ, List.getElem_cons_zero, Act.put, List.setIfInBounds_toArray, List.set_cons_zero, List.set_cons_succ]
        refine qc_take (.agg #[.int .u64 y1, .int .u64 y2]) (by rfl) (fun W hW => ?_) ?_
        · (try dsimp only at hW)
          have y := Sn.bk_below HR1.out hW (Sn.bk_lt HR1.out)
          have y0 := Sn.bk_c y 0
          have y1 := Sn.bk_c y 1
          simp only [List.getElem?_toArray, List.getElem?_cons_zero, List.getElem?_cons_succ] at y0 y1
          go_simp
        try simp only [List.getElem_toArray, List.getElem_cons_succ, List.getElem_cons_zero, Act.put, List.setIfInBounds_toArray, List.set_cons_zero, List.set_cons_succ]
        refine qc_take (.agg #[.int .u64 x1, .int .u64 x2]) (by rfl) (fun W hW => ?_) ?_
        · (try dsimp only at hW)
          have y := Sn.bk_below HR0.out hW (Sn.bk_lt HR0.out)
          have y0 := Sn.bk_c y 0
          have y1 := Sn.bk_c y 1
          simp only [List.getElem?_toArray, List.getElem?_cons_zero, List.getElem?_cons_succ] at y0 y1
          go_simp
        try simp only [List.getElem_toArray, List.getElem_cons_succ, List.getElem_cons_zero, Act.put, List.setIfInBounds_toArray, List.set_cons_zero, List.set_cons_succ]
        refine qc_take (.agg #[.int .u64 j1, .int .u64 j2]) (by rfl) (fun W hW => ?_) ?_
        · (try dsimp only at hW)
          go_simp
          exact (HJ2.out W).mono fun e w9 h9 => ⟨h9.1, Sn.below_next hW h9.2 hW.size⟩
        try simp only [List.getElem_toArray, List.getElem_cons_succ, List.getElem_cons_zero, Act.put, List.setIfInBounds_toArray, List.set_cons_zero, List.set_cons_succ]
        refine qc_take (.bool false) (by rfl) (fun W hW => ?_) ?_
        · (try dsimp only at hW)
          go_simp
        try simp only [List.getElem_toArray, List.getElem_cons_succ, List.getElem_cons_zero, Act.put, List.setIfInBounds_toArray, List.set_cons_zero, List.set_cons_succ]
        refine qc_take (.bool false) (by rfl) (fun W hW => ?_) ?_
        · (try dsimp only at hW)
          go_simp
        try simp only [List.getElem_toArray, List.getElem_cons_succ, List.getElem_cons_zero, Act.put, List.setIfInBounds_toArray, List.set_cons_zero, List.set_cons_succ]
        refine qc_take (.bool false) (by rfl) (fun W hW => ?_) ?_
        · (try dsimp only at hW)
          go_simp
        try simp only [List.getElem_toArray, List.getElem_cons_succ, List.getElem_cons_zero, Act.put, List.setIfInBounds_toArray, List.set_cons_zero, List.set_cons_succ]
        refine qc_take (.bool true) (by rfl) (fun W hW => ?_) ?_
        · (try dsimp only at hW)
          go_simp
        try simp only [List.getElem_toArray, List.getElem_cons_succ, List.getElem_cons_zero, Act.put, List.setIfInBounds_toArray, List.set_cons_zero, List.set_cons_succ]
        refine qc_take (.bool true) (by rfl) (fun W hW => ?_) ?_
        · (try dsimp only at hW)
          go_simp
        try simp only [List.getElem_toArray, List.getElem_cons_succ, List.getElem_cons_zero, Act.put, List.setIfInBounds_toArray, List.set_cons_zero, List.set_cons_succ]
        refine qc_take (.bool false) (by rfl) (fun W hW => ?_) ?_
        · (try dsimp only at hW)
          go_simp
        try simp only [List.getElem_toArray, List.getElem_cons_succ, List.getElem_cons_zero, Act.put, List.setIfInBounds_toArray, List.set_cons_zero, List.set_cons_succ]
        refine qc_take (.bool false) (by rfl) (fun W hW => ?_) ?_
        · (try dsimp only at hW)
          go_simp
        try simp only [List.getElem_toArray, List.getElem_cons_succ, List.getElem_cons_zero, Act.put, List.setIfInBounds_toArray, List.set_cons_zero, List.set_cons_succ]
        refine qc_take (.bool false) (by rfl) (fun W hW => ?_) ?_
        · (try dsimp only at hW)
          go_simp
        try simp only [List.getElem_toArray, List.getElem_cons_succ, List.getElem_cons_zero, Act.put, List.setIfInBounds_toArray, List.set_cons_zero, List.set_cons_succ]
        refine qc_take (.bool false) (by rfl) (fun W hW => ?_) ?_
        · (try dsimp only at hW)
          go_simp
        try simp only [List.getElem_toArray, List.getElem_cons_succ, List.getElem_cons_zero, Act.put, List.setIfInBounds_toArray, List.set_cons_zero, List.set_cons_succ]
        refine qc_skip (by rfl) ?_
        try simp only [List.getElem_toArray, List.getElem_cons_succ, List.getElem_cons_zero, Act.put, List.setIfInBounds_toArray, List.set_cons_zero, List.set_cons_succ]
        refine qc_skip (by rfl) ?_
        try simp only [List.getElem_toArray, List.getElem_cons_succ, List.getElem_cons_zero, Act.put, List.setIfInBounds_toArray, List.set_cons_zero, List.set_cons_succ]
        refine qc_skip (by rfl) ?_
        try simp only [List.getElem_toArray, List.getElem_cons_succ, List.getElem_cons_zero, Act.put, List.setIfInBounds_toArray, List.set_cons_zero, List.set_cons_succ]
        refine qc_skip (by rfl) ?_
        try simp only [List.getElem_toArray, List.getElem_cons_succ, List.getElem_cons_zero, Act.put, List.setIfInBounds_toArray, List.set_cons_zero, List.set_cons_succ]
        refine qc_take (.bool false) (by rfl) (fun W hW => ?_) ?_
        · (try dsimp only at hW)
          go_simp
        try simp only [List.getElem_toArray, List.getElem_cons_succ, List.getElem_cons_zero, Act.put, List.setIfInBounds_toArray, List.set_cons_zero, List.set_cons_succ]
        refine qc_take (.bool false) (by rfl) (fun W hW => ?_) ?_
        · (try dsimp only at hW)
          go_simp
        try simp only [List.getElem_toArray, List.getElem_cons_succ, List.getElem_cons_zero, Act.put, List.setIfInBounds_toArray, List.set_cons_zero, List.set_cons_succ]
        refine qc_take (.bool false) (by rfl) (fun W hW => ?_) ?_
        · (try dsimp only at hW)
          go_simp
        try simp only [List.getElem_toArray, List.getElem_cons_succ, List.getElem_cons_zero, Act.put, List.setIfInBounds_toArray, List.set_cons_zero, List.set_cons_succ]
        refine wpQuiet_nil ?_
        intro v2 hb
        have hr0 := Sn.bk_below HR0.out hb (Sn.bk_lt HR0.out)
        have hr1 := Sn.bk_below HR1.out hb (Sn.bk_lt HR1.out)
        have hr2 := Sn.bk_below HR2.out hb (Sn.bk_lt HR2.out)
        have hr3 := Sn.bk_below HR3.out hb (Sn.bk_lt HR3.out)
        have hr4 := Sn.bk_below HR4.out hb (Sn.bk_lt HR4.out)
        have hB := Sn.below_next HB.out hb HB.out.size
        clear HB HR0 HR1 HR2 HR3 HR4 hb
        have HB := Lib.hid hB
        have HR0 := Lib.hid hr0
        have HR1 := Lib.hid hr1
        have HR2 := Lib.hid hr2
        have HR3 := Lib.hid hr3
        have HR4 := Lib.hid hr4
        clear hB hr0 hr1 hr2 hr3 hr4
        clear v
        rename World => v
        go_wp2_with fail
        refine qc_all (fun W => Below v.heap.size v W) (by kernel_rfl) (by kernel_rfl) (Below.refl _ _).drew ?_
        refine qc_take (.bool true) (by rfl) (fun W hW => ?_) ?_
        · (try dsimp only at hW)
          go_simp
        try simp only [List.getElem_toArray, List.getElem_cons_succ, List.getElem_cons_zero, Act.put, List.setIfInBounds_toArray, List.set_cons_zero, List.set_cons_succ]
        refine qc_take (.bool false) (by rfl) (fun W hW => ?_) ?_
        · (try dsimp only at hW)
          go_simp
        try simp only [List.getElem_toArray, List.getElem_cons_succ, List.getElem_cons_zero, Act.put, List.setIfInBounds_toArray, List.set_cons_zero, List.set_cons_succ]
        refine qc_take (.bool false) (by rfl) (fun W hW => ?_) ?_
        · (try dsimp only at hW)
          go_simp
        try simp only [List.getElem_toArray, List.getElem_cons_succ, List.getElem_cons_zero, Act.put, List.setIfInBounds_toArray, List.set_cons_zero, List.set_cons_succ]
        refine qc_skip (by rfl) ?_
        try simp only [List.getElem_toArray, List.getElem_cons_succ, List.getElem_cons_zero, Act.put, List.setIfInBounds_toArray, List.set_cons_zero, List.set_cons_succ]
        refine qc_skip (by rfl) ?_
        try simp only [List.getElem_toArray, List.getElem_cons_succ, List.getElem_cons_zero, Act.put, List.setIfInBounds_toArray, List.set_cons_zero, List.set_cons_succ]
        refine qc_take (.bool false) (by rfl) (fun W hW => ?_) ?_
        · (try dsimp only at hW)
          go_simp
        try simp only [List.getElem_toArray, List.getElem_cons_succ, List.getElem_cons_zero, Act.put, List.setIfInBounds_toArray, List.set_cons_zero, List.set_cons_succ]
        refine qc_take (.bool false) (by rfl) (fun W hW => ?_) ?_
        · (try dsimp only at hW)
          go_simp
        try simp only [List.getElem_toArray, List.getElem_cons_succ, List.getElem_cons_zero, Act.put, List.setIfInBounds_toArray, List.set_cons_zero, List.set_cons_succ]
        refine qc_take (.int .i64 a) (by rfl) (fun W hW => ?_) ?_
        · (try dsimp only at hW)
          go_simp
        try simp only [List.getElem_toArray, List.getElem_cons_succ, List.getElem_cons_zero, Act.put, List.setIfInBounds_toArray, List.set_cons_zero, List.set_cons_succ]
        refine qc_take (.agg #[.int .u64 j1, .int .u64 j2]) (by rfl) (fun W hW => ?_) ?_
        · (try dsimp only at hW)
          have y := Sn.bk_below HR4.out hW (Sn.bk_lt HR4.out)
          have y0 := Sn.bk_c y 0
          have y1 := Sn.bk_c y 1
          simp only [List.getElem?_toArray, List.getElem?_cons_zero, List.getElem?_cons_succ] at y0 y1
          go_simp
        try simp only [List.getElem_toArray, List.getElem_cons_succ, List.getElem_cons_zero, Act.put, List.setIfInBounds_toArray, List.set_cons_zero, List.set_cons_succ]
        refine qc_take (.int .u64 n) (by rfl) (fun W hW => ?_) ?_
        · (try dsimp only at hW)
          go_simp
        try simp only [List.getElem_toArray, List.getElem_cons_succ, List.getElem_cons_zero, Act.put, List.setIfInBounds_toArray, List.set_cons_zero, List.set_cons_succ]
        refine qc_take (.bool true) (by rfl) (fun W hW => ?_) ?_
        · (try dsimp only at hW)
          go_simp
          exact (C6.out W).mono fun e w9 h9 => ⟨h9.1, Sn.below_next hW h9.2 hW.size⟩
        try simp only [List.getElem_toArray, List.getElem_cons_succ, List.getElem_cons_zero, Act.put, List.setIfInBounds_toArray, List.set_cons_zero, List.set_cons_succ]
        refine qc_take (.bool true) (by rfl) (fun W hW => ?_) ?_
        · (try dsimp only at hW)
          go_simp
        try simp only [List.getElem_toArray, List.getElem_cons_succ, List.getElem_cons_zero, Act.put, List.setIfInBounds_toArray, List.set_cons_zero, List.set_cons_succ]
        refine qc_take (.bool true) (by rfl) (fun W hW => ?_) ?_
        · (try dsimp only at hW)
          go_simp
        try simp only [List.getElem_toArray, List.getElem_cons_succ, List.getElem_cons_zero, Act.put, List.setIfInBounds_toArray, List.set_cons_zero, List.set_cons_succ]
        refine qc_take (.int .i64 a) (by rfl) (fun W hW => ?_) ?_
        · (try dsimp only at hW)
          go_simp
        try simp only [List.getElem_toArray, List.getElem_cons_succ, List.getElem_cons_zero, Act.put, List.setIfInBounds_toArray, List.set_cons_zero, List.set_cons_succ]
        refine qc_take (.agg #[.int .u64 j1, .int .u64 j2]) (by rfl) (fun W hW => ?_) ?_
        · (try dsimp only at hW)
          have y := Sn.bk_below HR4.out hW (Sn.bk_lt HR4.out)
          have y0 := Sn.bk_c y 0
          have y1 := Sn.bk_c y 1
          simp only [List.getElem?_toArray, List.getElem?_cons_zero, List.getElem?_cons_succ] at y0 y1
          go_simp
        try simp only [List.getElem_toArray, List.getElem_cons_succ, List.getElem_cons_zero, Act.put, List.setIfInBounds_toArray, List.set_cons_zero, List.set_cons_succ]
        refine qc_take (.int .i64 a) (by rfl) (fun W hW => ?_) ?_
        · (try dsimp only at hW)
          go_simp
        try simp only [List.getElem_toArray, List.getElem_cons_succ, List.getElem_cons_zero, Act.put, List.setIfInBounds_toArray, List.set_cons_zero, List.set_cons_succ]
        refine qc_take (.agg #[.int .u64 x1, .int .u64 x2]) (by rfl) (fun W hW => ?_) ?_
        · (try dsimp only at hW)
          have y := Sn.bk_below HR0.out hW (Sn.bk_lt HR0.out)
          have y0 := Sn.bk_c y 0
          have y1 := Sn.bk_c y 1
          simp only [List.getElem?_toArray, List.getElem?_cons_zero, List.getElem?_cons_succ] at y0 y1
          go_simp
        try simp only [List.getElem_toArray, List.getElem_cons_succ, List.getElem_cons_zero, Act.put, List.setIfInBounds_toArray, List.set_cons_zero, List.set_cons_succ]
        refine qc_take (.agg #[.int .u64 p1, .int .u64 p2]) (by rfl) (fun W hW => ?_) ?_
        · (try dsimp only at hW)
          go_simp
          exact (HX.out W).mono fun e w9 h9 => ⟨h9.1, Sn.below_next hW h9.2 hW.size⟩
        try simp only [List.getElem_toArray, List.getElem_cons_succ, List.getElem_cons_zero, Act.put, List.setIfInBounds_toArray, List.set_cons_zero, List.set_cons_succ]
        refine qc_take (.int .u64 p1) (by rfl) (fun W hW => ?_) ?_
        · (try dsimp only at hW)
          go_simp
          simp [sp_fd0, sp_fd1]
        try simp only [List.getElem_toArray, List.getElem_cons_succ, List.getElem_cons_zero, Act.put, List.setIfInBounds_toArray, List.set_cons_zero, List.set_cons_succ]
        refine qc_take (.bool true) (by rfl) (fun W hW => ?_) ?_
        · (try dsimp only at hW)
          go_simp
          exact (C4.out W).mono fun e w9 h9 => ⟨h9.1, Sn.below_next hW h9.2 hW.size⟩
        try simp only [List.getElem_toArray, List.getElem_cons_succ, List.getElem_cons_zero, Act.put, List.setIfInBounds_toArray, List.set_cons_zero, List.set_cons_succ]
        refine qc_take (.bool true) (by rfl) (fun W hW => ?_) ?_
        · (try dsimp only at hW)
          go_simp
        try simp only [List.getElem_toArray, List.getElem_cons_succ, List.getElem_cons_zero, Act.put, List.setIfInBounds_toArray, List.set_cons_zero, List.set_cons_succ]
        refine qc_take (.bool true) (by rfl) (fun W hW => ?_) ?_
        · (try dsimp only at hW)
          go_simp
        try simp only [List.getElem_toArray, List.getElem_cons_succ, List.getElem_cons_zero, Act.put, List.setIfInBounds_toArray, List.set_cons_zero, List.set_cons_succ]
        refine qc_take (.int .i64 a) (by rfl) (fun W hW => ?_) ?_
        · (try dsimp only at hW)
          go_simp
        try simp only [List.getElem_toArray, List.getElem_cons_succ, List.getElem_cons_zero, Act.put, List.setIfInBounds_toArray, List.set_cons_zero, List.set_cons_succ]
        refine qc_take (.agg #[.int .u64 j1, .int .u64 j2]) (by rfl) (fun W hW => ?_) ?_
        · (try dsimp only at hW)
          have y := Sn.bk_below HR4.out hW (Sn.bk_lt HR4.out)
          have y0 := Sn.bk_c y 0
          have y1 := Sn.bk_c y 1
          simp only [List.getElem?_toArray, List.getElem?_cons_zero, List.getElem?_cons_succ] at y0 y1
          go_simp
        try simp only [List.getElem_toArray, List.getElem_cons_succ, List.getElem_cons_zero, Act.put, List.setIfInBounds_toArray, List.set_cons_zero, List.set_cons_succ]
        refine qc_take (.int .i64 a) (by rfl) (fun W hW => ?_) ?_
        · (try dsimp only at hW)
          go_simp
        try simp only [List.getElem_toArray, List.getElem_cons_succ, List.getElem_cons_zero, Act.put, List.setIfInBounds_toArray, List.set_cons_zero, List.set_cons_succ]
        refine qc_take (.agg #[.int .u64 y1, .int .u64 y2]) (by rfl) (fun W hW => ?_) ?_
        · (try dsimp only at hW)
          have y := Sn.bk_below HR1.out hW (Sn.bk_lt HR1.out)
          have y0 := Sn.bk_c y 0
          have y1 := Sn.bk_c y 1
          simp only [List.getElem?_toArray, List.getElem?_cons_zero, List.getElem?_cons_succ] at y0 y1
          go_simp
        try simp only [List.getElem_toArray, List.getElem_cons_succ, List.getElem_cons_zero, Act.put, List.setIfInBounds_toArray, List.set_cons_zero, List.set_cons_succ]
        refine qc_take (.agg #[.int .u64 q1, .int .u64 q2]) (by rfl) (fun W hW => ?_) ?_
        · (try dsimp only at hW)
          go_simp
          exact (HY.out W).mono fun e w9 h9 => ⟨h9.1, Sn.below_next hW h9.2 hW.size⟩
        try simp only [List.getElem_toArray, List.getElem_cons_succ, List.getElem_cons_zero, Act.put, List.setIfInBounds_toArray, List.set_cons_zero, List.set_cons_succ]
        refine qc_take (.int .u64 q2) (by rfl) (fun W hW => ?_) ?_
        · (try dsimp only at hW)
          go_simp
          simp [sp_fd0, sp_fd1]
        try simp only [List.getElem_toArray, List.getElem_cons_succ, List.getElem_cons_zero, Act.put, List.setIfInBounds_toArray, List.set_cons_zero, List.set_cons_succ]
        refine qc_take (.bool true) (by rfl) (fun W hW => ?_) ?_
        · (try dsimp only at hW)
          go_simp
          exact (C5.out W).mono fun e w9 h9 => ⟨h9.1, Sn.below_next hW h9.2 hW.size⟩
        try simp only [List.getElem_toArray, List.getElem_cons_succ, List.getElem_cons_zero, Act.put, List.setIfInBounds_toArray, List.set_cons_zero, List.set_cons_succ]
        refine qc_take (.bool true) (by rfl) (fun W hW => ?_) ?_
        · (try dsimp only at hW)
          go_simp
        try simp only [List.getElem_toArray, List.getElem_cons_succ, List.getElem_cons_zero, Act.put, List.setIfInBounds_toArray, List.set_cons_zero, List.set_cons_succ]
        refine qc_take (.bool true) (by rfl) (fun W hW => ?_) ?_
        · (try dsimp only at hW)
          go_simp
        try simp only [List.getElem_toArray, List.getElem_cons_succ, List.getElem_cons_zero, Act.put, List.setIfInBounds_toArray, List.set_cons_zero, List.set_cons_succ]
        refine wpQuiet_nil ?_
        intro v2 hb
        have hr0 := Sn.bk_below HR0.out hb (Sn.bk_lt HR0.out)
        have hB := Sn.below_next HB.out hb HB.out.size
        clear HB HR0 hb
        have HB := Lib.hid hB
        have HR0 := Lib.hid hr0
        clear hB hr0
        go_wp2_with fail
        go_ret
        exact ⟨rfl, HB.out⟩
      | true =>
        have d4 : Sn.has a (m1, m2) n = false := by rw [d1, d2] at f1; simpa using f1.symm
        have hC1 : Sn.has a (x1, x2) n = true := d1
        have hC2 : Sn.has a (y1, y2) n = false := d2
        clear d1 d2
        have C1 : Hid (∀ W : World, Calls Try.prog 13 #[.int .i64 a, Sn.v (x1, x2), .int .u64 n] W fun e w' => e = .returned (.bool true) ∧ Below W.heap.size W w') := Lib.hid (fun W => by
          have h := has_any a (x1, x2) n W
          rw [hC1] at h
          exact h)
        have C2 : Hid (∀ W : World, Calls Try.prog 13 #[.int .i64 a, Sn.v (y1, y2), .int .u64 n] W fun e w' => e = .returned (.bool false) ∧ Below W.heap.size W w') := Lib.hid (fun W => by
          have h := has_any a (y1, y2) n W
          rw [hC2] at h
          exact h)
        have C4 : Hid (∀ W : World, Calls Try.prog 13 #[.int .i64 a, Sn.v (j1, j2), .int .u64 p1] W fun e w' => e = .returned (.bool true) ∧ Below W.heap.size W w') := Lib.hid (fun W => by
          have h := has_any a (j1, j2) p1 W
          rw [f3] at h
          exact h)
        have C5 : Hid (∀ W : World, Calls Try.prog 13 #[.int .i64 a, Sn.v (j1, j2), .int .u64 q2] W fun e w' => e = .returned (.bool true) ∧ Below W.heap.size W w') := Lib.hid (fun W => by
          have h := has_any a (j1, j2) q2 W
          rw [f4] at h
          exact h)
        have hC3 : Sn.has a (m1, m2) n = false := by simpa using d4
        clear d4
        have C3 : Hid (∀ W : World, Calls Try.prog 13 #[.int .i64 a, Sn.v (m1, m2), .int .u64 n] W fun e w' => e = .returned (.bool false) ∧ Below W.heap.size W w') := Lib.hid (fun W => by
          have h := has_any a (m1, m2) n W
          rw [hC3] at h
          exact h)
        clear hC3
        have hC6 : Sn.has a (j1, j2) n = true := f2 (.inl hC1)
        have C6 : Hid (∀ W : World, Calls Try.prog 13 #[.int .i64 a, Sn.v (j1, j2), .int .u64 n] W fun e w' => e = .returned (.bool true) ∧ Below W.heap.size W w') := Lib.hid (fun W => by
          have h := has_any a (j1, j2) n W
          rw [hC6] at h
          exact h)
        clear hC6
        clear hC1 hC2 f1 f2 f3 f4
        show Calls Try.prog 5 #[.int .i64 a, .agg #[.int .u64 x1, .int .u64 x2], .agg #[.int .u64 y1, .int .u64 y2], .int .u64 n] w _
        go_enter Try.func5, Try.ntmps5
        go_upto_region 1 with (fail)
        have hB : Below w.heap.size w ((w.alloc (.cells #[.int .u64 x1, .int .u64 x2] 24)).alloc (.cells #[.int .u64 y1, .int .u64 y2] 24)) := (((Below.refl _ _).alloc (Nat.le_refl _) _).alloc (by simp) _)
        have hr0 : Sn.Bk ((w.alloc (.cells #[.int .u64 x1, .int .u64 x2] 24)).alloc (.cells #[.int .u64 y1, .int .u64 y2] 24)) (w.heap.size) 24 #[.int .u64 x1, .int .u64 x2] := Sn.bk_old (Sn.bk_new _ _ _) _
        have hr1 : Sn.Bk ((w.alloc (.cells #[.int .u64 x1, .int .u64 x2] 24)).alloc (.cells #[.int .u64 y1, .int .u64 y2] 24)) (w.heap.size + 1) 24 #[.int .u64 y1, .int .u64 y2] := Sn.bk_at (by simp)
        generalize ((w.alloc (.cells #[.int .u64 x1, .int .u64 x2] 24)).alloc (.cells #[.int .u64 y1, .int .u64 y2] 24)) = v at *
        have HB := Lib.hid hB
        have HR0 := Lib.hid hr0
        have HR1 := Lib.hid hr1
        clear hB hr0 hr1
        go_wp2_with fail
        refine (sn_awake v).mono ?_
        rintro e v2 ⟨rfl, hb⟩
        have hr0 := Sn.bk_below HR0.out hb (Sn.bk_lt HR0.out)
        have hr1 := Sn.bk_below HR1.out hb (Sn.bk_lt HR1.out)
        have hB := Sn.below_next HB.out hb HB.out.size
        clear HB HR0 HR1 hb
        have HB := Lib.hid hB
        have HR0 := Lib.hid hr0
        have HR1 := Lib.hid hr1
        clear hB hr0 hr1
        clear v
        rename World => v
        have c0_0 := Sn.bk_c HR0.out 0
        have c0_1 := Sn.bk_c HR0.out 1
        have c1_0 := Sn.bk_c HR1.out 0
        have c1_1 := Sn.bk_c HR1.out 1
        simp only [List.getElem?_toArray, List.getElem?_cons_zero, List.getElem?_cons_succ] at c0_0 c0_1 c1_0 c1_1
        go_wp2_with fail
        clear c0_0 c0_1 c1_0 c1_1
        refine (HM.out v).mono ?_
        rintro e v2 ⟨rfl, hb⟩
        have hr0 := Sn.bk_below HR0.out hb (Sn.bk_lt HR0.out)
        have hr1 := Sn.bk_below HR1.out hb (Sn.bk_lt HR1.out)
        have hB := Sn.below_next HB.out hb HB.out.size
        clear HB HR0 HR1 hb
        have HB := Lib.hid hB
        have HR0 := Lib.hid hr0
        have HR1 := Lib.hid hr1
        clear hB hr0 hr1
        clear v
        rename World => v
        go_upto_region 4 with (fail)
        have hB : Below w.heap.size w (v.alloc (.cells #[.int .u64 m1, .int .u64 m2] 24)) := (HB.out).alloc (by exact HB.out.size) _
        have hr0 : Sn.Bk (v.alloc (.cells #[.int .u64 m1, .int .u64 m2] 24)) (w.heap.size) 24 #[.int .u64 x1, .int .u64 x2] := Sn.bk_old (HR0.out) _
        have hr1 : Sn.Bk (v.alloc (.cells #[.int .u64 m1, .int .u64 m2] 24)) (w.heap.size + 1) 24 #[.int .u64 y1, .int .u64 y2] := Sn.bk_old (HR1.out) _
        have hr2 : Sn.Bk (v.alloc (.cells #[.int .u64 m1, .int .u64 m2] 24)) (v.heap.size) 24 #[.int .u64 m1, .int .u64 m2] := Sn.bk_new _ _ _
        clear HB HR0 HR1
        generalize (v.alloc (.cells #[.int .u64 m1, .int .u64 m2] 24)) = u at *
        generalize v.heap.size = b3 at *
        clear v
        rename World => v
        have HB := Lib.hid hB
        have HR0 := Lib.hid hr0
        have HR1 := Lib.hid hr1
        have HR2 := Lib.hid hr2
        clear hB hr0 hr1 hr2
        have c0_0 := Sn.bk_c HR0.out 0
        have c0_1 := Sn.bk_c HR0.out 1
        have c1_0 := Sn.bk_c HR1.out 0
        have c1_1 := Sn.bk_c HR1.out 1
        simp only [List.getElem?_toArray, List.getElem?_cons_zero, List.getElem?_cons_succ] at c0_0 c0_1 c1_0 c1_1
        go_wp2_with fail
        clear c0_0 c0_1 c1_0 c1_1
        refine (HM2.out v).mono ?_
        rintro e v2 ⟨rfl, hb⟩
        have hr0 := Sn.bk_below HR0.out hb (Sn.bk_lt HR0.out)
        have hr1 := Sn.bk_below HR1.out hb (Sn.bk_lt HR1.out)
        have hr2 := Sn.bk_below HR2.out hb (Sn.bk_lt HR2.out)
        have hB := Sn.below_next HB.out hb HB.out.size
        clear HB HR0 HR1 HR2 hb
        have HB := Lib.hid hB
        have HR0 := Lib.hid hr0
        have HR1 := Lib.hid hr1
        have HR2 := Lib.hid hr2
        clear hB hr0 hr1 hr2
        clear v
        rename World => v
        go_upto_region 5 with (fail)
        have hB : Below w.heap.size w (v.alloc (.cells #[.int .u64 m1, .int .u64 m2] 24)) := (HB.out).alloc (by exact HB.out.size) _
        have hr0 : Sn.Bk (v.alloc (.cells #[.int .u64 m1, .int .u64 m2] 24)) (w.heap.size) 24 #[.int .u64 x1, .int .u64 x2] := Sn.bk_old (HR0.out) _
        have hr1 : Sn.Bk (v.alloc (.cells #[.int .u64 m1, .int .u64 m2] 24)) (w.heap.size + 1) 24 #[.int .u64 y1, .int .u64 y2] := Sn.bk_old (HR1.out) _
        have hr2 : Sn.Bk (v.alloc (.cells #[.int .u64 m1, .int .u64 m2] 24)) (b3) 24 #[.int .u64 m1, .int .u64 m2] := Sn.bk_old (HR2.out) _
        have hr3 : Sn.Bk (v.alloc (.cells #[.int .u64 m1, .int .u64 m2] 24)) (v.heap.size) 24 #[.int .u64 m1, .int .u64 m2] := Sn.bk_new _ _ _
        clear HB HR0 HR1 HR2
        generalize (v.alloc (.cells #[.int .u64 m1, .int .u64 m2] 24)) = u at *
        generalize v.heap.size = b4 at *
        clear v
        rename World => v
        have HB := Lib.hid hB
        have HR0 := Lib.hid hr0
        have HR1 := Lib.hid hr1
        have HR2 := Lib.hid hr2
        have HR3 := Lib.hid hr3
        clear hB hr0 hr1 hr2 hr3
        have c0_0 := Sn.bk_c HR0.out 0
        have c0_1 := Sn.bk_c HR0.out 1
        have c1_0 := Sn.bk_c HR1.out 0
        have c1_1 := Sn.bk_c HR1.out 1
        simp only [List.getElem?_toArray, List.getElem?_cons_zero, List.getElem?_cons_succ] at c0_0 c0_1 c1_0 c1_1
        go_wp2_with fail
        clear c0_0 c0_1 c1_0 c1_1
        refine (HJ.out v).mono ?_
        rintro e v2 ⟨rfl, hb⟩
        have hr0 := Sn.bk_below HR0.out hb (Sn.bk_lt HR0.out)
        have hr1 := Sn.bk_below HR1.out hb (Sn.bk_lt HR1.out)
        have hr2 := Sn.bk_below HR2.out hb (Sn.bk_lt HR2.out)
        have hr3 := Sn.bk_below HR3.out hb (Sn.bk_lt HR3.out)
        have hB := Sn.below_next HB.out hb HB.out.size
        clear HB HR0 HR1 HR2 HR3 hb
        have HB := Lib.hid hB
        have HR0 := Lib.hid hr0
        have HR1 := Lib.hid hr1
        have HR2 := Lib.hid hr2
        have HR3 := Lib.hid hr3
        clear hB hr0 hr1 hr2 hr3
        clear v
        rename World => v
        go_upto_region 6 with (fail)
        have hB : Below w.heap.size w (v.alloc (.cells #[.int .u64 j1, .int .u64 j2] 24)) := (HB.out).alloc (by exact HB.out.size) _
        have hr0 : Sn.Bk (v.alloc (.cells #[.int .u64 j1, .int .u64 j2] 24)) (w.heap.size) 24 #[.int .u64 x1, .int .u64 x2] := Sn.bk_old (HR0.out) _
        have hr1 : Sn.Bk (v.alloc (.cells #[.int .u64 j1, .int .u64 j2] 24)) (w.heap.size + 1) 24 #[.int .u64 y1, .int .u64 y2] := Sn.bk_old (HR1.out) _
        have hr2 : Sn.Bk (v.alloc (.cells #[.int .u64 j1, .int .u64 j2] 24)) (b3) 24 #[.int .u64 m1, .int .u64 m2] := Sn.bk_old (HR2.out) _
        have hr3 : Sn.Bk (v.alloc (.cells #[.int .u64 j1, .int .u64 j2] 24)) (b4) 24 #[.int .u64 m1, .int .u64 m2] := Sn.bk_old (HR3.out) _
        have hr4 : Sn.Bk (v.alloc (.cells #[.int .u64 j1, .int .u64 j2] 24)) (v.heap.size) 24 #[.int .u64 j1, .int .u64 j2] := Sn.bk_new _ _ _
        clear HB HR0 HR1 HR2 HR3
        generalize (v.alloc (.cells #[.int .u64 j1, .int .u64 j2] 24)) = u at *
        generalize v.heap.size = b5 at *
        clear v
        rename World => v
        have HB := Lib.hid hB
        have HR0 := Lib.hid hr0
        have HR1 := Lib.hid hr1
        have HR2 := Lib.hid hr2
        have HR3 := Lib.hid hr3
        have HR4 := Lib.hid hr4
        clear hB hr0 hr1 hr2 hr3 hr4
        refine qc_all (fun W => Below v.heap.size v W) (by kernel_rfl) (by kernel_rfl) (Below.refl _ _).drew ?_
        refine qc_take (.int .i64 a) (by rfl) (fun W hW => ?_) ?_
        · (try dsimp only at hW)
          go_simp
        try simp only [List.getElem_toArray, List.getElem_cons_succ, List.getElem_cons_zero, Act.put, List.setIfInBounds_toArray, List.set_cons_zero, List.set_cons_succ]
        refine qc_take (.agg #[.int .u64 x1, .int .u64 x2]) (by rfl) (fun W hW => ?_) ?_
        · (try dsimp only at hW)
          have y := Sn.bk_below HR0.out hW (Sn.bk_lt HR0.out)
          have y0 := Sn.bk_c y 0
          have y1 := Sn.bk_c y 1
          simp only [List.getElem?_toArray, List.getElem?_cons_zero, List.getElem?_cons_succ] at y0 y1
          go_simp
        try simp only [List.getElem_toArray, List.getElem_cons_succ, List.getElem_cons_zero, Act.put, List.setIfInBounds_toArray, List.set_cons_zero, List.set_cons_succ]
        refine qc_take (.int .u64 n) (by rfl) (fun W hW => ?_) ?_
        · (try dsimp only at hW)
          go_simp
        try simp only [List.getElem_toArray, List.getElem_cons_succ, List.getElem_cons_zero, Act.put, List.setIfInBounds_toArray, List.set_cons_zero, List.set_cons_succ]
        refine qc_take (.bool true) (by rfl) (fun W hW => ?_) ?_
        · (try dsimp only at hW)
          go_simp
          exact (C1.out W).mono fun e w9 h9 => ⟨h9.1, Sn.below_next hW h9.2 hW.size⟩
        try simp only [List.getElem_toArray, List.getElem_cons_succ, List.getElem_cons_zero, Act.put, List.setIfInBounds_toArray, List.set_cons_zero, List.set_cons_succ]
        refine qc_take (.int .i64 a) (by rfl) (fun W hW => ?_) ?_
        · (try dsimp only at hW)
          go_simp
        try simp only [List.getElem_toArray, List.getElem_cons_succ, List.getElem_cons_zero, Act.put, List.setIfInBounds_toArray, List.set_cons_zero, List.set_cons_succ]
        refine qc_take (.agg #[.int .u64 y1, .int .u64 y2]) (by rfl) (fun W hW => ?_) ?_
        · (try dsimp only at hW)
          have y := Sn.bk_below HR1.out hW (Sn.bk_lt HR1.out)
          have y0 := Sn.bk_c y 0
          have y1 := Sn.bk_c y 1
          simp only [List.getElem?_toArray, List.getElem?_cons_zero, List.getElem?_cons_succ] at y0 y1
          go_simp
        try simp only [List.getElem_toArray, List.getElem_cons_succ, List.getElem_cons_zero, Act.put, List.setIfInBounds_toArray, List.set_cons_zero, List.set_cons_succ]
        refine qc_take (.int .u64 n) (by rfl) (fun W hW => ?_) ?_
        · (try dsimp only at hW)
          go_simp
        try simp only [List.getElem_toArray, List.getElem_cons_succ, List.getElem_cons_zero, Act.put, List.setIfInBounds_toArray, List.set_cons_zero, List.set_cons_succ]
        refine qc_take (.bool false) (by rfl) (fun W hW => ?_) ?_
        · (try dsimp only at hW)
          go_simp
          exact (C2.out W).mono fun e w9 h9 => ⟨h9.1, Sn.below_next hW h9.2 hW.size⟩
        try simp only [List.getElem_toArray, List.getElem_cons_succ, List.getElem_cons_zero, Act.put, List.setIfInBounds_toArray, List.set_cons_zero, List.set_cons_succ]
        refine qc_take (.bool true) (by rfl) (fun W hW => ?_) ?_
        · (try dsimp only at hW)
          go_simp
        try simp only [List.getElem_toArray, List.getElem_cons_succ, List.getElem_cons_zero, Act.put, List.setIfInBounds_toArray, List.set_cons_zero, List.set_cons_succ]
        refine qc_take (.bool false) (by rfl) (fun W hW => ?_) ?_
        · (try dsimp only at hW)
          go_simp
        try simp only [List.getElem_toArray, List.getElem_cons_succ, List.getElem_cons_zero, Act.put, List.setIfInBounds_toArray, List.set_cons_zero, List.set_cons_succ]
        refine wpQuiet_nil ?_
        intro v2 hb
        have hr0 := Sn.bk_below HR0.out hb (Sn.bk_lt HR0.out)
        have hr1 := Sn.bk_below HR1.out hb (Sn.bk_lt HR1.out)
        have hr2 := Sn.bk_below HR2.out hb (Sn.bk_lt HR2.out)
        have hr3 := Sn.bk_below HR3.out hb (Sn.bk_lt HR3.out)
        have hr4 := Sn.bk_below HR4.out hb (Sn.bk_lt HR4.out)
        have hB := Sn.below_next HB.out hb HB.out.size
        clear HB HR0 HR1 HR2 HR3 HR4 hb
        have HB := Lib.hid hB
        have HR0 := Lib.hid hr0
        have HR1 := Lib.hid hr1
        have HR2 := Lib.hid hr2
        have HR3 := Lib.hid hr3
        have HR4 := Lib.hid hr4
        clear hB hr0 hr1 hr2 hr3 hr4
        clear v
        rename World => v
        go_wp2_with fail
        refine qc_all (fun W => Below v.heap.size v W) (by kernel_rfl) (by kernel_rfl) (Below.refl _ _).drew ?_
        refine qc_take (.bool true) (by rfl) (fun W hW => ?_) ?_
        · (try dsimp only at hW)
          go_simp
        try simp only [List.getElem_toArray, List.getElem_cons_succ, List.getElem_cons_zero, Act.put, List.setIfInBounds_toArray, List.set_cons_zero, List.set_cons_succ]
        refine qc_take (.bool true) (by rfl) (fun W hW => ?_) ?_
        · (try dsimp only at hW)
          go_simp
        try simp only [List.getElem_toArray, List.getElem_cons_succ, List.getElem_cons_zero, Act.put, List.setIfInBounds_toArray, List.set_cons_zero, List.set_cons_succ]
        refine qc_take (.bool false) (by rfl) (fun W hW => ?_) ?_
        · (try dsimp only at hW)
          go_simp
        try simp only [List.getElem_toArray, List.getElem_cons_succ, List.getElem_cons_zero, Act.put, List.setIfInBounds_toArray, List.set_cons_zero, List.set_cons_succ]
        refine qc_take (.bool false) (by rfl) (fun W hW => ?_) ?_
        · (try dsimp only at hW)
          go_simp
        try simp only [List.getElem_toArray, List.getElem_cons_succ, List.getElem_cons_zero, Act.put, List.setIfInBounds_toArray, List.set_cons_zero, List.set_cons_succ]
        refine qc_take (.agg #[.int .u64 m1, .int .u64 m2]) (by rfl) (fun W hW => ?_) ?_
        · (try dsimp only at hW)
          have y := Sn.bk_below HR2.out hW (Sn.bk_lt HR2.out)
          have y0 := Sn.bk_c y 0
          have y1 := Sn.bk_c y 1
          simp only [List.getElem?_toArray, List.getElem?_cons_zero, List.getElem?_cons_succ] at y0 y1
          go_simp
        try simp only [List.getElem_toArray, List.getElem_cons_succ, List.getElem_cons_zero, Act.put, List.setIfInBounds_toArray, List.set_cons_zero, List.set_cons_succ]
        refine qc_take (.agg #[.int .u64 m1, .int .u64 m2]) (by rfl) (fun W hW => ?_) ?_
        · (try dsimp only at hW)
          have y := Sn.bk_below HR3.out hW (Sn.bk_lt HR3.out)
          have y0 := Sn.bk_c y 0
          have y1 := Sn.bk_c y 1
          simp only [List.getElem?_toArray, List.getElem?_cons_zero, List.getElem?_cons_succ] at y0 y1
          go_simp
        try simp only [List.getElem_toArray, List.getElem_cons_succ, List.getElem_cons_zero, Act.put, List.setIfInBounds_toArray, List.set_cons_zero, List.set_cons_succ]
        refine qc_take (.bool false) (by rfl) (fun W hW => ?_) ?_
        · (try dsimp only at hW)
          go_simp
        try simp only [List.getElem_toArray, List.getElem_cons_succ, List.getElem_cons_zero, Act.put, List.setIfInBounds_toArray, List.set_cons_zero, List.set_cons_succ]
        refine qc_take (.bool false) (by rfl) (fun W hW => ?_) ?_
        · (try dsimp only at hW)
          go_simp
        try simp only [List.getElem_toArray, List.getElem_cons_succ, List.getElem_cons_zero, Act.put, List.setIfInBounds_toArray, List.set_cons_zero, List.set_cons_succ]
        refine qc_take (.bool false) (by rfl) (fun W hW => ?_) ?_
        · (try dsimp only at hW)
          go_simp
        try simp only [List.getElem_toArray, List.getElem_cons_succ, List.getElem_cons_zero, Act.put, List.setIfInBounds_toArray, List.set_cons_zero, List.set_cons_succ]
        refine qc_take (.agg #[.int .u64 j1, .int .u64 j2]) (by rfl) (fun W hW => ?_) ?_
        · (try dsimp only at hW)
          have y := Sn.bk_below HR4.out hW (Sn.bk_lt HR4.out)
          have y0 := Sn.bk_c y 0
          have y1 := Sn.bk_c y 1
          simp only [List.getElem?_toArray, List.getElem?_cons_zero, List.getElem?_cons_succ] at y0 y1
          go_simp
        try simp only [List.getElem_toArray, List.getElem_cons_succ, List.getElem_cons_zero, Act.put, List.setIfInBounds_toArray, List.set_cons_zero, List.set_cons_succ]
        refine qc_take (.int .i64 a) (by rfl) (fun W hW => ?_) ?_
        · (try dsimp only at hW)
          go_simp
        try simp only [List.getElem_toArray, List.getElem_cons_succ, List.getElem_cons_zero, Act.put, List.setIfInBounds_toArray, List.set_cons_zero, List.set_cons_succ]
        refine qc_take (.agg #[.int .u64 y1, .int .u64 y2]) (by rfl) (fun W hW => ?_) ?_
        · (try dsimp only at hW)
          have y := Sn.bk_below HR1.out hW (Sn.bk_lt HR1.out)
          have y0 := Sn.bk_c y 0
          have y1 := Sn.bk_c y 1
          simp only [List.getElem?_toArray, List.getElem?_cons_zero, List.getElem?_cons_succ] at y0 y1
          go_simp
        try simp only [List.getElem_toArray, List.getElem_cons_succ, List.getElem_cons_zero, Act.put, List.setIfInBounds_toArray, List.set_cons_zero, List.set_cons_succ]
        refine qc_take (.agg #[.int .u64 x1, .int .u64 x2]) (by rfl) (fun W hW => ?_) ?_
        · (try dsimp only at hW)
          have y := Sn.bk_below HR0.out hW (Sn.bk_lt HR0.out)
          have y0 := Sn.bk_c y 0
          have y1 := Sn.bk_c y 1
          simp only [List.getElem?_toArray, List.getElem?_cons_zero, List.getElem?_cons_succ] at y0 y1
          go_simp
        try simp only [List.getElem_toArray, List.getElem_cons_succ, List.getElem_cons_zero, Act.put, List.setIfInBounds_toArray, List.set_cons_zero, List.set_cons_succ]
        refine qc_take (.agg #[.int .u64 j1, .int .u64 j2]) (by rfl) (fun W hW => ?_) ?_
        · (try dsimp only at hW)
          go_simp
          exact (HJ2.out W).mono fun e w9 h9 => ⟨h9.1, Sn.below_next hW h9.2 hW.size⟩
        try simp only [List.getElem_toArray, List.getElem_cons_succ, List.getElem_cons_zero, Act.put, List.setIfInBounds_toArray, List.set_cons_zero, List.set_cons_succ]
        refine qc_take (.bool false) (by rfl) (fun W hW => ?_) ?_
        · (try dsimp only at hW)
          go_simp
        try simp only [List.getElem_toArray, List.getElem_cons_succ, List.getElem_cons_zero, Act.put, List.setIfInBounds_toArray, List.set_cons_zero, List.set_cons_succ]
        refine qc_take (.bool false) (by rfl) (fun W hW => ?_) ?_
        · (try dsimp only at hW)
          go_simp
        try simp only [List.getElem_toArray, List.getElem_cons_succ, List.getElem_cons_zero, Act.put, List.setIfInBounds_toArray, List.set_cons_zero, List.set_cons_succ]
        refine qc_take (.bool false) (by rfl) (fun W hW => ?_) ?_
        · (try dsimp only at hW)
          go_simp
        try simp only [List.getElem_toArray, List.getElem_cons_succ, List.getElem_cons_zero, Act.put, List.setIfInBounds_toArray, List.set_cons_zero, List.set_cons_succ]
        refine qc_take (.bool true) (by rfl) (fun W hW => ?_) ?_
        · (try dsimp only at hW)
          go_simp
        try simp only [List.getElem_toArray, List.getElem_cons_succ, List.getElem_cons_zero, Act.put, List.setIfInBounds_toArray, List.set_cons_zero, List.set_cons_succ]
        refine qc_take (.bool true) (by rfl) (fun W hW => ?_) ?_
        · (try dsimp only at hW)
          go_simp
        try simp only [List.getElem_toArray, List.getElem_cons_succ, List.getElem_cons_zero, Act.put, List.setIfInBounds_toArray, List.set_cons_zero, List.set_cons_succ]
        refine qc_take (.bool false) (by rfl) (fun W hW => ?_) ?_
        · (try dsimp only at hW)
          go_simp
        try simp only [List.getElem_toArray, List.getElem_cons_succ, List.getElem_cons_zero, Act.put, List.setIfInBounds_toArray, List.set_cons_zero, List.set_cons_succ]
        refine qc_take (.bool false) (by rfl) (fun W hW => ?_) ?_
        · (try dsimp only at hW)
          go_simp
        try simp only [List.getElem_toArray, List.getElem_cons_succ, List.getElem_cons_zero, Act.put, List.setIfInBounds_toArray, List.set_cons_zero, List.set_cons_succ]
        refine qc_take (.bool true) (by rfl) (fun W hW => ?_) ?_
        · (try dsimp only at hW)
          go_simp
        try simp only [List.getElem_toArray, List.getElem_cons_succ, List.getElem_cons_zero, Act.put, List.setIfInBounds_toArray, List.set_cons_zero, List.set_cons_succ]
        refine qc_take (.bool true) (by rfl) (fun W hW => ?_) ?_
        · (try dsimp only at hW)
          go_simp
        try simp only [List.getElem_toArray, List.getElem_cons_succ, List.getElem_cons_zero, Act.put, List.setIfInBounds_toArray, List.set_cons_zero, List.set_cons_succ]
        refine qc_take (.int .i64 a) (by rfl) (fun W hW => ?_) ?_
        · (try dsimp only at hW)
          go_simp
        try simp only [List.getElem_toArray, List.getElem_cons_succ, List.getElem_cons_zero, Act.put, List.setIfInBounds_toArray, List.set_cons_zero, List.set_cons_succ]
        refine qc_take (.agg #[.int .u64 m1, .int .u64 m2]) (by rfl) (fun W hW => ?_) ?_
        · (try dsimp only at hW)
          have y := Sn.bk_below HR2.out hW (Sn.bk_lt HR2.out)
          have y0 := Sn.bk_c y 0
          have y1 := Sn.bk_c y 1
          simp only [List.getElem?_toArray, List.getElem?_cons_zero, List.getElem?_cons_succ] at y0 y1
          go_simp
        try simp only [List.getElem_toArray, List.getElem_cons_succ, List.getElem_cons_zero, Act.put, List.setIfInBounds_toArray, List.set_cons_zero, List.set_cons_succ]
        refine qc_take (.int .u64 n) (by rfl) (fun W hW => ?_) ?_
        · (try dsimp only at hW)
          go_simp
        try simp only [List.getElem_toArray, List.getElem_cons_succ, List.getElem_cons_zero, Act.put, List.setIfInBounds_toArray, List.set_cons_zero, List.set_cons_succ]
        refine qc_take (.bool false) (by rfl) (fun W hW => ?_) ?_
        · (try dsimp only at hW)
          go_simp
          exact (C3.out W).mono fun e w9 h9 => ⟨h9.1, Sn.below_next hW h9.2 hW.size⟩
        try simp only [List.getElem_toArray, List.getElem_cons_succ, List.getElem_cons_zero, Act.put, List.setIfInBounds_toArray, List.set_cons_zero, List.set_cons_succ]
        refine qc_take (.bool false) (by rfl) (fun W hW => ?_) ?_
        · (try dsimp only at hW)
          go_simp
        try simp only [List.getElem_toArray, List.getElem_cons_succ, List.getElem_cons_zero, Act.put, List.setIfInBounds_toArray, List.set_cons_zero, List.set_cons_succ]
        refine qc_take (.bool false) (by rfl) (fun W hW => ?_) ?_
        · (try dsimp only at hW)
          go_simp
        try simp only [List.getElem_toArray, List.getElem_cons_succ, List.getElem_cons_zero, Act.put, List.setIfInBounds_toArray, List.set_cons_zero, List.set_cons_succ]
        refine qc_take (.bool false) (by rfl) (fun W hW => ?_) ?_
        · (try dsimp only at hW)
          go_simp
        try simp only [List.getElem_toArray, List.getElem_cons_succ, List.getElem_cons_zero, Act.put, List.setIfInBounds_toArray, List.set_cons_zero, List.set_cons_succ]
        refine wpQuiet_nil ?_
        intro v2 hb
        have hr0 := Sn.bk_below HR0.out hb (Sn.bk_lt HR0.out)
        have hr1 := Sn.bk_below HR1.out hb (Sn.bk_lt HR1.out)
        have hr2 := Sn.bk_below HR2.out hb (Sn.bk_lt HR2.out)
        have hr3 := Sn.bk_below HR3.out hb (Sn.bk_lt HR3.out)
        have hr4 := Sn.bk_below HR4.out hb (Sn.bk_lt HR4.out)
        have hB := Sn.below_next HB.out hb HB.out.size
        clear HB HR0 HR1 HR2 HR3 HR4 hb
        have HB := Lib.hid hB
        have HR0 := Lib.hid hr0
        have HR1 := Lib.hid hr1
        have HR2 := Lib.hid hr2
        have HR3 := Lib.hid hr3
        have HR4 := Lib.hid hr4
        clear hB hr0 hr1 hr2 hr3 hr4
        clear v
        rename World => v
        go_wp2_with fail
        refine qc_all (fun W => Below v.heap.size v W) (by kernel_rfl) (by kernel_rfl) (Below.refl _ _).drew ?_
        refine qc_take (.bool true) (by rfl) (fun W hW => ?_) ?_
        · (try dsimp only at hW)
          go_simp
        try simp only [List.getElem_toArray, List.getElem_cons_succ, List.getElem_cons_zero, Act.put, List.setIfInBounds_toArray, List.set_cons_zero, List.set_cons_succ]
        refine qc_take (.bool false) (by rfl) (fun W hW => ?_) ?_
        · (try dsimp only at hW)
          go_simp
        try simp only [List.getElem_toArray, List.getElem_cons_succ, List.getElem_cons_zero, Act.put, List.setIfInBounds_toArray, List.set_cons_zero, List.set_cons_succ]
        refine qc_take (.bool false) (by rfl) (fun W hW => ?_) ?_
        · (try dsimp only at hW)
          go_simp
        try simp only [List.getElem_toArray, List.getElem_cons_succ, List.getElem_cons_zero, Act.put, List.setIfInBounds_toArray, List.set_cons_zero, List.set_cons_succ]
        refine qc_skip (by rfl) ?_
        try simp only [List.getElem_toArray, List.getElem_cons_succ, List.getElem_cons_zero, Act.put, List.setIfInBounds_toArray, List.set_cons_zero, List.set_cons_succ]
        refine qc_skip (by rfl) ?_
        try simp only [List.getElem_toArray, List.getElem_cons_succ, List.getElem_cons_zero, Act.put, List.setIfInBounds_toArray, List.set_cons_zero, List.set_cons_succ]
        refine qc_take (.bool false) (by rfl) (fun W hW => ?_) ?_
        · (try dsimp only at hW)
          go_simp
        try simp only [List.getElem_toArray, List.getElem_cons_succ, List.getElem_cons_zero, Act.put, List.setIfInBounds_toArray, List.set_cons_zero, List.set_cons_succ]
        refine qc_take (.bool false) (by rfl) (fun W hW => ?_) ?_
        · (try dsimp only at hW)
          go_simp
        try simp only [List.getElem_toArray, List.getElem_cons_succ, List.getElem_cons_zero, Act.put, List.setIfInBounds_toArray, List.set_cons_zero, List.set_cons_succ]
        refine qc_take (.int .i64 a) (by rfl) (fun W hW => ?_) ?_
        · (try dsimp only at hW)
          go_simp
        try simp only [List.getElem_toArray, List.getElem_cons_succ, List.getElem_cons_zero, Act.put, List.setIfInBounds_toArray, List.set_cons_zero, List.set_cons_succ]
        refine qc_take (.agg #[.int .u64 j1, .int .u64 j2]) (by rfl) (fun W hW => ?_) ?_
        · (try dsimp only at hW)
          have y := Sn.bk_below HR4.out hW (Sn.bk_lt HR4.out)
          have y0 := Sn.bk_c y 0
          have y1 := Sn.bk_c y 1
          simp only [List.getElem?_toArray, List.getElem?_cons_zero, List.getElem?_cons_succ] at y0 y1
          go_simp
        try simp only [List.getElem_toArray, List.getElem_cons_succ, List.getElem_cons_zero, Act.put, List.setIfInBounds_toArray, List.set_cons_zero, List.set_cons_succ]
        refine qc_take (.int .u64 n) (by rfl) (fun W hW => ?_) ?_
        · (try dsimp only at hW)
          go_simp
        try simp only [List.getElem_toArray, List.getElem_cons_succ, List.getElem_cons_zero, Act.put, List.setIfInBounds_toArray, List.set_cons_zero, List.set_cons_succ]
        refine qc_take (.bool true) (by rfl) (fun W hW => ?_) ?_
        · (try dsimp only at hW)
          go_simp
          exact (C6.out W).mono fun e w9 h9 => ⟨h9.1, Sn.below_next hW h9.2 hW.size⟩
        try simp only [List.getElem_toArray, List.getElem_cons_succ, List.getElem_cons_zero, Act.put, List.setIfInBounds_toArray, List.set_cons_zero, List.set_cons_succ]
        refine qc_take (.bool true) (by rfl) (fun W hW => ?_) ?_
        · (try dsimp only at hW)
          go_simp
        try simp only [List.getElem_toArray, List.getElem_cons_succ, List.getElem_cons_zero, Act.put, List.setIfInBounds_toArray, List.set_cons_zero, List.set_cons_succ]
        refine qc_take (.bool true) (by rfl) (fun W hW => ?_) ?_
        · (try dsimp only at hW)
          go_simp
        try simp only [List.getElem_toArray, List.getElem_cons_succ, List.getElem_cons_zero, Act.put, List.setIfInBounds_toArray, List.set_cons_zero, List.set_cons_succ]
        refine qc_take (.int .i64 a) (by rfl) (fun W hW => ?_) ?_
        · (try dsimp only at hW)
          go_simp
        try simp only [List.getElem_toArray, List.getElem_cons_succ, List.getElem_cons_zero, Act.put, List.setIfInBounds_toArray, List.set_cons_zero, List.set_cons_succ]
        refine qc_take (.agg #[.int .u64 j1, .int .u64 j2]) (by rfl) (fun W hW => ?_) ?_
        · (try dsimp only at hW)
          have y := Sn.bk_below HR4.out hW (Sn.bk_lt HR4.out)
          have y0 := Sn.bk_c y 0
          have y1 := Sn.bk_c y 1
          simp only [List.getElem?_toArray, List.getElem?_cons_zero, List.getElem?_cons_succ] at y0 y1
          go_simp
        try simp only [List.getElem_toArray, List.getElem_cons_succ, List.getElem_cons_zero, Act.put, List.setIfInBounds_toArray, List.set_cons_zero, List.set_cons_succ]
        refine qc_take (.int .i64 a) (by rfl) (fun W hW => ?_) ?_
        · (try dsimp only at hW)
          go_simp
        try simp only [List.getElem_toArray, List.getElem_cons_succ, List.getElem_cons_zero, Act.put, List.setIfInBounds_toArray, List.set_cons_zero, List.set_cons_succ]
        refine qc_take (.agg #[.int .u64 x1, .int .u64 x2]) (by rfl) (fun W hW => ?_) ?_
        · (try dsimp only at hW)
          have y := Sn.bk_below HR0.out hW (Sn.bk_lt HR0.out)
          have y0 := Sn.bk_c y 0
          have y1 := Sn.bk_c y 1
          simp only [List.getElem?_toArray, List.getElem?_cons_zero, List.getElem?_cons_succ] at y0 y1
          go_simp
        try simp only [List.getElem_toArray, List.getElem_cons_succ, List.getElem_cons_zero, Act.put, List.setIfInBounds_toArray, List.set_cons_zero, List.set_cons_succ]
        refine qc_take (.agg #[.int .u64 p1, .int .u64 p2]) (by rfl) (fun W hW => ?_) ?_
        · (try dsimp only at hW)
          go_simp
          exact (HX.out W).mono fun e w9 h9 => ⟨h9.1, Sn.below_next hW h9.2 hW.size⟩
        try simp only [List.getElem_toArray, List.getElem_cons_succ, List.getElem_cons_zero, Act.put, List.setIfInBounds_toArray, List.set_cons_zero, List.set_cons_succ]
        refine qc_take (.int .u64 p1) (by rfl) (fun W hW => ?_) ?_
        · (try dsimp only at hW)
          go_simp
          simp [sp_fd0, sp_fd1]
        try simp only [List.getElem_toArray, List.getElem_cons_succ, List.getElem_cons_zero, Act.put, List.setIfInBounds_toArray, List.set_cons_zero, List.set_cons_succ]
        refine qc_take (.bool true) (by rfl) (fun W hW => ?_) ?_
        · (try dsimp only at hW)
          go_simp
          exact (C4.out W).mono fun e w9 h9 => ⟨h9.1, Sn.below_next hW h9.2 hW.size⟩
        try simp only [List.getElem_toArray, List.getElem_cons_succ, List.getElem_cons_zero, Act.put, List.setIfInBounds_toArray, List.set_cons_zero, List.set_cons_succ]
        refine qc_take (.bool true) (by rfl) (fun W hW => ?_) ?_
        · (try dsimp only at hW)
          go_simp
        try simp only [List.getElem_toArray, List.getElem_cons_succ, List.getElem_cons_zero, Act.put, List.setIfInBounds_toArray, List.set_cons_zero, List.set_cons_succ]
        refine qc_take (.bool true) (by rfl) (fun W hW => ?_) ?_
        · (try dsimp only at hW)
          go_simp
        try simp only [List.getElem_toArray, List.getElem_cons_succ, List.getElem_cons_zero, Act.put, List.setIfInBounds_toArray, List.set_cons_zero, List.set_cons_succ]
        refine qc_take (.int .i64 a) (by rfl) (fun W hW => ?_) ?_
        · (try dsimp only at hW)
          go_simp
        try simp only [List.getElem_toArray, List.getElem_cons_succ, List.getElem_cons_zero, Act.put, List.setIfInBounds_toArray, List.set_cons_zero, List.set_cons_succ]
        refine qc_take (.agg #[.int .u64 j1, .int .u64 j2]) (by rfl) (fun W hW => ?_) ?_
        · (try dsimp only at hW)
          have y := Sn.bk_below HR4.out hW (Sn.bk_lt HR4.out)
          have y0 := Sn.bk_c y 0
          have y1 := Sn.bk_c y 1
          simp only [List.getElem?_toArray, List.getElem?_cons_zero, List.getElem?_cons_succ] at y0 y1
          go_simp
        try simp only [List.getElem_toArray, List.getElem_cons_succ, List.getElem_cons_zero, Act.put, List.setIfInBounds_toArray, List.set_cons_zero, List.set_cons_succ]
        refine qc_take (.int .i64 a) (by rfl) (fun W hW => ?_) ?_
        · (try dsimp only at hW)
          go_simp
        try simp only [List.getElem_toArray, List.getElem_cons_succ, List.getElem_cons_zero, Act.put, List.setIfInBounds_toArray, List.set_cons_zero, List.set_cons_succ]
        refine qc_take (.agg #[.int .u64 y1, .int .u64 y2]) (by rfl) (fun W hW => ?_) ?_
        · (try dsimp only at hW)
          have y := Sn.bk_below HR1.out hW (Sn.bk_lt HR1.out)
          have y0 := Sn.bk_c y 0
          have y1 := Sn.bk_c y 1
          simp only [List.getElem?_toArray, List.getElem?_cons_zero, List.getElem?_cons_succ] at y0 y1
          go_simp
        try simp only [List.getElem_toArray, List.getElem_cons_succ, List.getElem_cons_zero, Act.put, List.setIfInBounds_toArray, List.set_cons_zero, List.set_cons_succ]
        refine qc_take (.agg #[.int .u64 q1, .int .u64 q2]) (by rfl) (fun W hW => ?_) ?_
        · (try dsimp only at hW)
          go_simp
          exact (HY.out W).mono fun e w9 h9 => ⟨h9.1, Sn.below_next hW h9.2 hW.size⟩
        try simp only [List.getElem_toArray, List.getElem_cons_succ, List.getElem_cons_zero, Act.put, List.setIfInBounds_toArray, List.set_cons_zero, List.set_cons_succ]
        refine qc_take (.int .u64 q2) (by rfl) (fun W hW => ?_) ?_
        · (try dsimp only at hW)
          go_simp
          simp [sp_fd0, sp_fd1]
        try simp only [List.getElem_toArray, List.getElem_cons_succ, List.getElem_cons_zero, Act.put, List.setIfInBounds_toArray, List.set_cons_zero, List.set_cons_succ]
        refine qc_take (.bool true) (by rfl) (fun W hW => ?_) ?_
        · (try dsimp only at hW)
          go_simp
          exact (C5.out W).mono fun e w9 h9 => ⟨h9.1, Sn.below_next hW h9.2 hW.size⟩
        try simp only [List.getElem_toArray, List.getElem_cons_succ, List.getElem_cons_zero, Act.put, List.setIfInBounds_toArray, List.set_cons_zero, List.set_cons_succ]
        refine qc_take (.bool true) (by rfl) (fun W hW => ?_) ?_
        · (try dsimp only at hW)
          go_simp
        try simp only [List.getElem_toArray, List.getElem_cons_succ, List.getElem_cons_zero, Act.put, List.setIfInBounds_toArray, List.set_cons_zero, List.set_cons_succ]
        refine qc_take (.bool true) (by rfl) (fun W hW => ?_) ?_
        · (try dsimp only at hW)
          go_simp
        try simp only [List.getElem_toArray, List.getElem_cons_succ, List.getElem_cons_zero, Act.put, List.setIfInBounds_toArray, List.set_cons_zero, List.set_cons_succ]
        refine wpQuiet_nil ?_
        intro v2 hb
        have hr0 := Sn.bk_below HR0.out hb (Sn.bk_lt HR0.out)
        have hB := Sn.below_next HB.out hb HB.out.size
        clear HB HR0 hb
        have HB := Lib.hid hB
        have HR0 := Lib.hid hr0
        clear hB hr0
        go_wp2_with fail
        go_ret
        exact ⟨rfl, HB.out⟩
  | false =>
    cases d2 : Sn.has a (y1, y2) n with
    | true =>
      cases ok with
      | false =>
        have hC1 : Sn.has a (x1, x2) n = false := d1
        have hC2 : Sn.has a (y1, y2) n = true := d2
        clear d1 d2
        have C1 : Hid (∀ W : World, Calls Try.prog 13 #[.int .i64 a, Sn.v (x1, x2), .int .u64 n] W fun e w' => e = .returned (.bool false) ∧ Below W.heap.size W w') := Lib.hid (fun W => by
          have h := has_any a (x1, x2) n W
          rw [hC1] at h
          exact h)
        have C2 : Hid (∀ W : World, Calls Try.prog 13 #[.int .i64 a, Sn.v (y1, y2), .int .u64 n] W fun e w' => e = .returned (.bool true) ∧ Below W.heap.size W w') := Lib.hid (fun W => by
          have h := has_any a (y1, y2) n W
          rw [hC2] at h
          exact h)
        have C4 : Hid (∀ W : World, Calls Try.prog 13 #[.int .i64 a, Sn.v (j1, j2), .int .u64 p1] W fun e w' => e = .returned (.bool true) ∧ Below W.heap.size W w') := Lib.hid (fun W => by
          have h := has_any a (j1, j2) p1 W
          rw [f3] at h
          exact h)
        have C5 : Hid (∀ W : World, Calls Try.prog 13 #[.int .i64 a, Sn.v (j1, j2), .int .u64 q2] W fun e w' => e = .returned (.bool true) ∧ Below W.heap.size W w') := Lib.hid (fun W => by
          have h := has_any a (j1, j2) q2 W
          rw [f4] at h
          exact h)
        have hC6 : Sn.has a (j1, j2) n = true := f2 (.inr hC2)
        have C6 : Hid (∀ W : World, Calls Try.prog 13 #[.int .i64 a, Sn.v (j1, j2), .int .u64 n] W fun e w' => e = .returned (.bool true) ∧ Below W.heap.size W w') := Lib.hid (fun W => by
          have h := has_any a (j1, j2) n W
          rw [hC6] at h
          exact h)
        clear hC6
        clear hC1 hC2 f1 f2 f3 f4
        show Calls Try.prog 5 #[.int .i64 a, .agg #[.int .u64 x1, .int .u64 x2], .agg #[.int .u64 y1, .int .u64 y2], .int .u64 n] w _
        go_enter Try.func5, Try.ntmps5
        go_upto_region 1 with (fail)
        have hB : Below w.heap.size w ((w.alloc (.cells #[.int .u64 x1, .int .u64 x2] 24)).alloc (.cells #[.int .u64 y1, .int .u64 y2] 24)) := (((Below.refl _ _).alloc (Nat.le_refl _) _).alloc (by simp) _)
        have hr0 : Sn.Bk ((w.alloc (.cells #[.int .u64 x1, .int .u64 x2] 24)).alloc (.cells #[.int .u64 y1, .int .u64 y2] 24)) (w.heap.size) 24 #[.int .u64 x1, .int .u64 x2] := Sn.bk_old (Sn.bk_new _ _ _) _
        have hr1 : Sn.Bk ((w.alloc (.cells #[.int .u64 x1, .int .u64 x2] 24)).alloc (.cells #[.int .u64 y1, .int .u64 y2] 24)) (w.heap.size + 1) 24 #[.int .u64 y1, .int .u64 y2] := Sn.bk_at (by simp)
        generalize ((w.alloc (.cells #[.int .u64 x1, .int .u64 x2] 24)).alloc (.cells #[.int .u64 y1, .int .u64 y2] 24)) = v at *
        have HB := Lib.hid hB
        have HR0 := Lib.hid hr0
        have HR1 := Lib.hid hr1
        clear hB hr0 hr1
        go_wp2_with fail
        refine (sn_awake v).mono ?_
        rintro e v2 ⟨rfl, hb⟩
        have hr0 := Sn.bk_below HR0.out hb (Sn.bk_lt HR0.out)
        have hr1 := Sn.bk_below HR1.out hb (Sn.bk_lt HR1.out)
        have hB := Sn.below_next HB.out hb HB.out.size
        clear HB HR0 HR1 hb
        have HB := Lib.hid hB
        have HR0 := Lib.hid hr0
        have HR1 := Lib.hid hr1
        clear hB hr0 hr1
        clear v
        rename World => v
        have c0_0 := Sn.bk_c HR0.out 0
        have c0_1 := Sn.bk_c HR0.out 1
        have c1_0 := Sn.bk_c HR1.out 0
        have c1_1 := Sn.bk_c HR1.out 1
        simp only [List.getElem?_toArray, List.getElem?_cons_zero, List.getElem?_cons_succ] at c0_0 c0_1 c1_0 c1_1
        go_wp2_with fail
        clear c0_0 c0_1 c1_0 c1_1
        refine (HM.out v).mono ?_
        rintro e v2 ⟨rfl, hb⟩
        have hr0 := Sn.bk_below HR0.out hb (Sn.bk_lt HR0.out)
        have hr1 := Sn.bk_below HR1.out hb (Sn.bk_lt HR1.out)
        have hB := Sn.below_next HB.out hb HB.out.size
        clear HB HR0 HR1 hb
        have HB := Lib.hid hB
        have HR0 := Lib.hid hr0
        have HR1 := Lib.hid hr1
        clear hB hr0 hr1
        clear v
        rename World => v
        go_upto_region 4 with (fail)
        have hB : Below w.heap.size w (v.alloc (.cells #[.int .u64 m1, .int .u64 m2] 24)) := (HB.out).alloc (by exact HB.out.size) _
        have hr0 : Sn.Bk (v.alloc (.cells #[.int .u64 m1, .int .u64 m2] 24)) (w.heap.size) 24 #[.int .u64 x1, .int .u64 x2] := Sn.bk_old (HR0.out) _
        have hr1 : Sn.Bk (v.alloc (.cells #[.int .u64 m1, .int .u64 m2] 24)) (w.heap.size + 1) 24 #[.int .u64 y1, .int .u64 y2] := Sn.bk_old (HR1.out) _
        have hr2 : Sn.Bk (v.alloc (.cells #[.int .u64 m1, .int .u64 m2] 24)) (v.heap.size) 24 #[.int .u64 m1, .int .u64 m2] := Sn.bk_new _ _ _
        clear HB HR0 HR1
        generalize (v.alloc (.cells #[.int .u64 m1, .int .u64 m2] 24)) = u at *
        generalize v.heap.size = b3 at *
        clear v
        rename World => v
        have HB := Lib.hid hB
        have HR0 := Lib.hid hr0
        have HR1 := Lib.hid hr1
        have HR2 := Lib.hid hr2
        clear hB hr0 hr1 hr2
        have c0_0 := Sn.bk_c HR0.out 0
        have c0_1 := Sn.bk_c HR0.out 1
        have c1_0 := Sn.bk_c HR1.out 0
        have c1_1 := Sn.bk_c HR1.out 1
        simp only [List.getElem?_toArray, List.getElem?_cons_zero, List.getElem?_cons_succ] at c0_0 c0_1 c1_0 c1_1
        go_wp2_with fail
        clear c0_0 c0_1 c1_0 c1_1
        refine (HM2.out v).mono ?_
        rintro e v2 ⟨rfl, hb⟩
        have hr0 := Sn.bk_below HR0.out hb (Sn.bk_lt HR0.out)
        have hr1 := Sn.bk_below HR1.out hb (Sn.bk_lt HR1.out)
        have hr2 := Sn.bk_below HR2.out hb (Sn.bk_lt HR2.out)
        have hB := Sn.below_next HB.out hb HB.out.size
        clear HB HR0 HR1 HR2 hb
        have HB := Lib.hid hB
        have HR0 := Lib.hid hr0
        have HR1 := Lib.hid hr1
        have HR2 := Lib.hid hr2
        clear hB hr0 hr1 hr2
        clear v
        rename World => v
        go_upto_region 5 with (fail)
        have hB : Below w.heap.size w (v.alloc (.cells #[.int .u64 m1, .int .u64 m2] 24)) := (HB.out).alloc (by exact HB.out.size) _
        have hr0 : Sn.Bk (v.alloc (.cells #[.int .u64 m1, .int .u64 m2] 24)) (w.heap.size) 24 #[.int .u64 x1, .int .u64 x2] := Sn.bk_old (HR0.out) _
        have hr1 : Sn.Bk (v.alloc (.cells #[.int .u64 m1, .int .u64 m2] 24)) (w.heap.size + 1) 24 #[.int .u64 y1, .int .u64 y2] := Sn.bk_old (HR1.out) _
        have hr2 : Sn.Bk (v.alloc (.cells #[.int .u64 m1, .int .u64 m2] 24)) (b3) 24 #[.int .u64 m1, .int .u64 m2] := Sn.bk_old (HR2.out) _
        have hr3 : Sn.Bk (v.alloc (.cells #[.int .u64 m1, .int .u64 m2] 24)) (v.heap.size) 24 #[.int .u64 m1, .int .u64 m2] := Sn.bk_new _ _ _
        clear HB HR0 HR1 HR2
        generalize (v.alloc (.cells #[.int .u64 m1, .int .u64 m2] 24)) = u at *
        generalize v.heap.size = b4 at *
        clear v
        rename World => v
        have HB := Lib.hid hB
        have HR0 := Lib.hid hr0
        have HR1 := Lib.hid hr1
        have HR2 := Lib.hid hr2
        have HR3 := Lib.hid hr3
        clear hB hr0 hr1 hr2 hr3
        have c0_0 := Sn.bk_c HR0.out 0
        have c0_1 := Sn.bk_c HR0.out 1
        have c1_0 := Sn.bk_c HR1.out 0
        have c1_1 := Sn.bk_c HR1.out 1
        simp only [List.getElem?_toArray, List.getElem?_cons_zero, List.getElem?_cons_succ] at c0_0 c0_1 c1_0 c1_1
        go_wp2_with fail
        clear c0_0 c0_1 c1_0 c1_1
        refine (HJ.out v).mono ?_
        rintro e v2 ⟨rfl, hb⟩
        have hr0 := Sn.bk_below HR0.out hb (Sn.bk_lt HR0.out)
        have hr1 := Sn.bk_below HR1.out hb (Sn.bk_lt HR1.out)
        have hr2 := Sn.bk_below HR2.out hb (Sn.bk_lt HR2.out)
        have hr3 := Sn.bk_below HR3.out hb (Sn.bk_lt HR3.out)
        have hB := Sn.below_next HB.out hb HB.out.size
        clear HB HR0 HR1 HR2 HR3 hb
        have HB := Lib.hid hB
        have HR0 := Lib.hid hr0
        have HR1 := Lib.hid hr1
        have HR2 := Lib.hid hr2
        have HR3 := Lib.hid hr3
        clear hB hr0 hr1 hr2 hr3
        clear v
        rename World => v
        go_upto_region 6 with (fail)
        have hB : Below w.heap.size w (v.alloc (.cells #[.int .u64 j1, .int .u64 j2] 24)) := (HB.out).alloc (by exact HB.out.size) _
        have hr0 : Sn.Bk (v.alloc (.cells #[.int .u64 j1, .int .u64 j2] 24)) (w.heap.size) 24 #[.int .u64 x1, .int .u64 x2] := Sn.bk_old (HR0.out) _
        have hr1 : Sn.Bk (v.alloc (.cells #[.int .u64 j1, .int .u64 j2] 24)) (w.heap.size + 1) 24 #[.int .u64 y1, .int .u64 y2] := Sn.bk_old (HR1.out) _
        have hr2 : Sn.Bk (v.alloc (.cells #[.int .u64 j1, .int .u64 j2] 24)) (b3) 24 #[.int .u64 m1, .int .u64 m2] := Sn.bk_old (HR2.out) _
        have hr3 : Sn.Bk (v.alloc (.cells #[.int .u64 j1, .int .u64 j2] 24)) (b4) 24 #[.int .u64 m1, .int .u64 m2] := Sn.bk_old (HR3.out) _
        have hr4 : Sn.Bk (v.alloc (.cells #[.int .u64 j1, .int .u64 j2] 24)) (v.heap.size) 24 #[.int .u64 j1, .int .u64 j2] := Sn.bk_new _ _ _
        clear HB HR0 HR1 HR2 HR3
        generalize (v.alloc (.cells #[.int .u64 j1, .int .u64 j2] 24)) = u at *
        generalize v.heap.size = b5 at *
        clear v
        rename World => v
        have HB := Lib.hid hB
        have HR0 := Lib.hid hr0
        have HR1 := Lib.hid hr1
        have HR2 := Lib.hid hr2
        have HR3 := Lib.hid hr3
        have HR4 := Lib.hid hr4
        clear hB hr0 hr1 hr2 hr3 hr4
        refine qc_all (fun W => Below v.heap.size v W) (by kernel_rfl) (by kernel_rfl) (Below.refl _ _).drew ?_
        refine qc_take (.int .i64 a) (by rfl) (fun W hW => ?_) ?_
        · (try dsimp only at hW)
          go_simp
        try simp only [List.getElem_toArray, List.getElem_cons_succ, List.getElem_cons_zero, Act.put, List.setIfInBounds_toArray, List.set_cons_zero, List.set_cons_succ]
        refine qc_take (.agg #[.int .u64 x1, .int .u64 x2]) (by rfl) (fun W hW => ?_) ?_
        · (try dsimp only at hW)
          have y := Sn.bk_below HR0.out hW (Sn.bk_lt HR0.out)
          have y0 := Sn.bk_c y 0
          have y1 := Sn.bk_c y 1
          simp only [List.getElem?_toArray, List.getElem?_cons_zero, List.getElem?_cons_succ] at y0 y1
          go_simp
        try simp only [List.getElem_toArray, List.getElem_cons_succ, List.getElem_cons_zero, Act.put, List.setIfInBounds_toArray, List.set_cons_zero, List.set_cons_succ]
        refine qc_take (.int .u64 n) (by rfl) (fun W hW => ?_) ?_
        · (try dsimp only at hW)
          go_simp
        try simp only [List.getElem_toArray, List.getElem_cons_succ, List.getElem_cons_zero, Act.put, List.setIfInBounds_toArray, List.set_cons_zero, List.set_cons_succ]
        refine qc_take (.bool false) (by rfl) (fun W hW => ?_) ?_
        · (try dsimp only at hW)
          go_simp
          exact (C1.out W).mono fun e w9 h9 => ⟨h9.1, Sn.below_next hW h9.2 hW.size⟩
        try simp only [List.getElem_toArray, List.getElem_cons_succ, List.getElem_cons_zero, Act.put, List.setIfInBounds_toArray, List.set_cons_zero, List.set_cons_succ]
        refine qc_take (.int .i64 a) (by rfl) (fun W hW => ?_) ?_
        · (try dsimp only at hW)
          go_simp
        try simp only [List.getElem_toArray, List.getElem_cons_succ, List.getElem_cons_zero, Act.put, List.setIfInBounds_toArray, List.set_cons_zero, List.set_cons_succ]
        refine qc_take (.agg #[.int .u64 y1, .int .u64 y2]) (by rfl) (fun W hW => ?_) ?_
        · (try dsimp only at hW)
          have y := Sn.bk_below HR1.out hW (Sn.bk_lt HR1.out)
          have y0 := Sn.bk_c y 0
          have y1 := Sn.bk_c y 1
          simp only [List.getElem?_toArray, List.getElem?_cons_zero, List.getElem?_cons_succ] at y0 y1
          go_simp
        try simp only [List.getElem_toArray, List.getElem_cons_succ, List.getElem_cons_zero, Act.put, List.setIfInBounds_toArray, List.set_cons_zero, List.set_cons_succ]
        refine qc_take (.int .u64 n) (by rfl) (fun W hW => ?_) ?_
        · (try dsimp only at hW)
          go_simp
        try simp only [List.getElem_toArray, List.getElem_cons_succ, List.getElem_cons_zero, Act.put, List.setIfInBounds_toArray, List.set_cons_zero, List.set_cons_succ]
        refine qc_take (.bool true) (by rfl) (fun W hW => ?_) ?_
        · (try dsimp only at hW)
          go_simp
          exact (C2.out W).mono fun e w9 h9 => ⟨h9.1, Sn.below_next hW h9.2 hW.size⟩
        try simp only [List.getElem_toArray, List.getElem_cons_succ, List.getElem_cons_zero, Act.put, List.setIfInBounds_toArray, List.set_cons_zero, List.set_cons_succ]
        refine qc_take (.bool false) (by rfl) (fun W hW => ?_) ?_
        · (try dsimp only at hW)
          go_simp
        try simp only [List.getElem_toArray, List.getElem_cons_succ, List.getElem_cons_zero, Act.put, List.setIfInBounds_toArray, List.set_cons_zero, List.set_cons_succ]
        refine qc_take (.bool true) (by rfl) (fun W hW => ?_) ?_
        · (try dsimp only at hW)
          go_simp
        try simp only [List.getElem_toArray, List.getElem_cons_succ, List.getElem_cons_zero, Act.put, List.setIfInBounds_toArray, List.set_cons_zero, List.set_cons_succ]
        refine wpQuiet_nil ?_
        intro v2 hb
        have hr0 := Sn.bk_below HR0.out hb (Sn.bk_lt HR0.out)
        have hr1 := Sn.bk_below HR1.out hb (Sn.bk_lt HR1.out)
        have hr2 := Sn.bk_below HR2.out hb (Sn.bk_lt HR2.out)
        have hr3 := Sn.bk_below HR3.out hb (Sn.bk_lt HR3.out)
        have hr4 := Sn.bk_below HR4.out hb (Sn.bk_lt HR4.out)
        have hB := Sn.below_next HB.out hb HB.out.size
        clear HB HR0 HR1 HR2 HR3 HR4 hb
        have HB := Lib.hid hB
        have HR0 := Lib.hid hr0
        have HR1 := Lib.hid hr1
        have HR2 := Lib.hid hr2
        have HR3 := Lib.hid hr3
        have HR4 := Lib.hid hr4
        clear hB hr0 hr1 hr2 hr3 hr4
        clear v
        rename World => v
        go_wp2_with fail
        refine qc_all (fun W => Below v.heap.size v W) (by kernel_rfl) (by kernel_rfl) (Below.refl _ _).drew ?_
        refine qc_take (.bool false) (by rfl) (fun W hW => ?_) ?_
        · (try dsimp only at hW)
          go_simp
        try simp only [List.getElem_toArray, List.getElem_cons_succ, List.getElem_cons_zero, Act.put, List.setIfInBounds_toArray, List.set_cons_zero, List.set_cons_succ]
        refine qc_take (.bool false) (by rfl) (fun W hW => ?_) ?_
        · (try dsimp only at hW)
          go_simp
        try simp only [List.getElem_toArray, List.getElem_cons_succ, List.getElem_cons_zero, Act.put, List.setIfInBounds_toArray, List.set_cons_zero, List.set_cons_succ]
        refine qc_take (.bool false) (by rfl) (fun W hW => ?_) ?_
        · (try dsimp only at hW)
          go_simp
        try simp only [List.getElem_toArray, List.getElem_cons_succ, List.getElem_cons_zero, Act.put, List.setIfInBounds_toArray, List.set_cons_zero, List.set_cons_succ]
        refine qc_take (.bool false) (by rfl) (fun W hW => ?_) ?_
        · (try dsimp only at hW)
          go_simp
        try simp only [List.getElem_toArray, List.getElem_cons_succ, List.getElem_cons_zero, Act.put, List.setIfInBounds_toArray, List.set_cons_zero, List.set_cons_succ]
        refine qc_take (.agg #[.int .u64 m1, .int .u64 m2]) (by rfl) (fun W hW => ?_) ?_
        · (try dsimp only at hW)
          have y := Sn.bk_below HR2.out hW (Sn.bk_lt HR2.out)
          have y0 := Sn.bk_c y 0
          have y1 := Sn.bk_c y 1
          simp only [List.getElem?_toArray, List.getElem?_cons_zero, List.getElem?_cons_succ] at y0 y1
          go_simp
        try simp only [List.getElem_toArray, List.getElem_cons_succ, List.getElem_cons_zero, Act.put, List.setIfInBounds_toArray, List.set_cons_zero, List.set_cons_succ]
        refine qc_take (.agg #[.int .u64 m1, .int .u64 m2]) (by rfl) (fun W hW => ?_) ?_
        · (try dsimp only at hW)
          have y := Sn.bk_below HR3.out hW (Sn.bk_lt HR3.out)
          have y0 := Sn.bk_c y 0
          have y1 := Sn.bk_c y 1
          simp only [List.getElem?_toArray, List.getElem?_cons_zero, List.getElem?_cons_succ] at y0 y1
          go_simp
        try simp only [List.getElem_toArray, List.getElem_cons_succ, List.getElem_cons_zero, Act.put, List.setIfInBounds_toArray, List.set_cons_zero, List.set_cons_succ]
        refine qc_take (.bool false) (by rfl) (fun W hW => ?_) ?_
        · (try dsimp only at hW)
          go_simp
        try simp only [List.getElem_toArray, List.getElem_cons_succ, List.getElem_cons_zero, Act.put, List.setIfInBounds_toArray, List.set_cons_zero, List.set_cons_succ]
        refine qc_take (.bool false) (by rfl) (fun W hW => ?_) ?_
        · (try dsimp only at hW)
          go_simp
        try simp only [List.getElem_toArray, List.getElem_cons_succ, List.getElem_cons_zero, Act.put, List.setIfInBounds_toArray, List.set_cons_zero, List.set_cons_succ]
        refine qc_take (.bool false) (by rfl) (fun W hW => ?_) ?_
        · (try dsimp only at hW)
          go_simp
        try simp only [List.getElem_toArray, List.getElem_cons_succ, List.getElem_cons_zero, Act.put, List.setIfInBounds_toArray, List.set_cons_zero, List.set_cons_succ]
        refine qc_take (.agg #[.int .u64 j1, .int .u64 j2]) (by rfl) (fun W hW => ?_) ?_
        · (try dsimp only at hW)
          have y := Sn.bk_below HR4.out hW (Sn.bk_lt HR4.out)
          have y0 := Sn.bk_c y 0
          have y1 := Sn.bk_c y 1
          simp only [List.getElem?_toArray, List.getElem?_cons_zero, List.getElem?_cons_succ] at y0 y1
          go_simp
        try simp only [List.getElem_toArray, List.getElem_cons_succ, List.getElem_cons_zero, Act.put, List.setIfInBounds_toArray, List.set_cons_zero, List.set_cons_succ]
        refine qc_take (.int .i64 a) (by rfl) (fun W hW => ?_) ?_
        · (try dsimp only at hW)
          go_simp
        try simp only [List.getElem_toArray, List.getElem_cons_succ, List.getElem_cons_zero, Act.put, List.setIfInBounds_toArray, List.set_cons_zero, List.set_cons_succ]
        refine qc_take (.agg #[.int .u64 y1, .int .u64 y2]) (by rfl) (fun W hW => ?_) ?_
        · (try dsimp only at hW)
          have y := Sn.bk_below HR1.out hW (Sn.bk_lt HR1.out)
          have y0 := Sn.bk_c y 0
          have y1 := Sn.bk_c y 1
          simp only [List.getElem?_toArray, List.getElem?_cons_zero, List.getElem?_cons_succ] at y0 y1
          go_simp
        try simp only [List.getElem_toArray, List.getElem_cons_succ, List.getElem_cons_zero, Act.put, List.setIfInBounds_toArray, List.set_cons_zero, List.set_cons_succ]
        refine qc_take (.agg #[.int .u64 x1, .int .u64 x2]) (by rfl) (fun W hW => ?_) ?_
        · (try dsimp only at hW)
          have y := Sn.bk_below HR0.out hW (Sn.bk_lt HR0.out)
          have y0 := Sn.bk_c y 0
          have y1 := Sn.bk_c y 1
          simp only [List.getElem?_toArray, List.getElem?_cons_zero, List.getElem?_cons_succ] at y0 y1
          go_simp
        try simp only [List.getElem_toArray, List.getElem_cons_succ, List.getElem_cons_zero, Act.put, List.setIfInBounds_toArray, List.set_cons_zero, List.set_cons_succ]
        refine qc_take (.agg #[.int .u64 j1, .int .u64 j2]) (by rfl) (fun W hW => ?_) ?_
        · (try dsimp only at hW)
          go_simp
          exact (HJ2.out W).mono fun e w9 h9 => ⟨h9.1, Sn.below_next hW h9.2 hW.size⟩
        try simp only [List.getElem_toArray, List.getElem_cons_succ, List.getElem_cons_zero, Act.put, List.setIfInBounds_toArray, List.set_cons_zero, List.set_cons_succ]
        refine qc_take (.bool false) (by rfl) (fun W hW => ?_) ?_
        · (try dsimp only at hW)
          go_simp
        try simp only [List.getElem_toArray, List.getElem_cons_succ, List.getElem_cons_zero, Act.put, List.setIfInBounds_toArray, List.set_cons_zero, List.set_cons_succ]
        refine qc_take (.bool false) (by rfl) (fun W hW => ?_) ?_
        · (try dsimp only at hW)
          go_simp
        try simp only [List.getElem_toArray, List.getElem_cons_succ, List.getElem_cons_zero, Act.put, List.setIfInBounds_toArray, List.set_cons_zero, List.set_cons_succ]
        refine qc_take (.bool false) (by rfl) (fun W hW => ?_) ?_
        · (try dsimp only at hW)
          go_simp
        try simp only [List.getElem_toArray, List.getElem_cons_succ, List.getElem_cons_zero, Act.put, List.setIfInBounds_toArray, List.set_cons_zero, List.set_cons_succ]
        refine qc_take (.bool false) (by rfl) (fun W hW => ?_) ?_
        · (try dsimp only at hW)
          go_simp
        try simp only [List.getElem_toArray, List.getElem_cons_succ, List.getElem_cons_zero, Act.put, List.setIfInBounds_toArray, List.set_cons_zero, List.set_cons_succ]
        refine qc_take (.bool false) (by rfl) (fun W hW => ?_) ?_
        · (try dsimp only at hW)
          go_simp
        try simp only [List.getElem_toArray, List.getElem_cons_succ, List.getElem_cons_zero, Act.put, List.setIfInBounds_toArray, List.set_cons_zero, List.set_cons_succ]
        refine qc_skip (by rfl) ?_
        try simp only [List.getElem_toArray, List.getElem_cons_succ, List.getElem_cons_zero, Act.put, List.setIfInBounds_toArray, List.set_cons_zero, List.set_cons_succ]
        refine qc_take (.bool false) (by rfl) (fun W hW => ?_) ?_
        · (try dsimp only at hW)
          go_simp
        try simp only [List.getElem_toArray, List.getElem_cons_succ, List.getElem_cons_zero, Act.put, List.setIfInBounds_toArray, List.set_cons_zero, List.set_cons_succ]
        refine qc_take (.bool false) (by rfl) (fun W hW => ?_) ?_
        · (try dsimp only at hW)
          go_simp
        try simp only [List.getElem_toArray, List.getElem_cons_succ, List.getElem_cons_zero, Act.put, List.setIfInBounds_toArray, List.set_cons_zero, List.set_cons_succ]
        refine qc_take (.bool false) (by rfl) (fun W hW => ?_) ?_
        · (try dsimp only at hW)
          go_simp
        try simp only [List.getElem_toArray, List.getElem_cons_succ, List.getElem_cons_zero, Act.put, List.setIfInBounds_toArray, List.set_cons_zero, List.set_cons_succ]
        refine qc_skip (by rfl) ?_
        try simp only [List.getElem_toArray, List.getElem_cons_succ, List.getElem_cons_zero, Act.put, List.setIfInBounds_toArray, List.set_cons_zero, List.set_cons_succ]
        refine qc_skip (by rfl) ?_
        try simp only [List.getElem_toArray, List.getElem_cons_succ, List.getElem_cons_zero, Act.put, List.setIfInBounds_toArray, List.set_cons_zero, List.set_cons_succ]
        refine qc_skip (by rfl) ?_
        try simp only [List.getElem_toArray, List.getElem_cons_succ, List.getElem_cons_zero, Act.put, List.setIfInBounds_toArray, List.set_cons_zero, List.set_cons_succ]
        refine qc_skip (by rfl) ?_
        try simp only [List.getElem_toArray, List.getElem_cons_succ, List.getElem_cons_zero, Act.put, List.setIfInBounds_toArray, List.set_cons_zero, List.set_cons_succ]
        refine qc_take (.bool false) (by rfl) (fun W hW => ?_) ?_
        · (try dsimp only at hW)
          go_simp
        try simp only [List.getElem_toArray, List.getElem_cons_succ, List.getElem_cons_zero, Act.put, List.setIfInBounds_toArray, List.set_cons_zero, List.set_cons_succ]
        refine qc_take (.bool false) (by rfl) (fun W hW => ?_) ?_
        · (try dsimp only at hW)
          go_simp
        try simp only [List.getElem_toArray, List.getElem_cons_succ, List.getElem_cons_zero, Act.put, List.setIfInBounds_toArray, List.set_cons_zero, List.set_cons_succ]
        refine qc_take (.bool false) (by rfl) (fun W hW => ?_) ?_
        · (try dsimp only at hW)
          go_simp
        try simp only [List.getElem_toArray, List.getElem_cons_succ, List.getElem_cons_zero, Act.put, List.setIfInBounds_toArray, List.set_cons_zero, List.set_cons_succ]
        refine wpQuiet_nil ?_
        intro v2 hb
        have hr0 := Sn.bk_below HR0.out hb (Sn.bk_lt HR0.out)
        have hr1 := Sn.bk_below HR1.out hb (Sn.bk_lt HR1.out)
        have hr2 := Sn.bk_below HR2.out hb (Sn.bk_lt HR2.out)
        have hr3 := Sn.bk_below HR3.out hb (Sn.bk_lt HR3.out)
        have hr4 := Sn.bk_below HR4.out hb (Sn.bk_lt HR4.out)
        have hB := Sn.below_next HB.out hb HB.out.size
        clear HB HR0 HR1 HR2 HR3 HR4 hb
        have HB := Lib.hid hB
        have HR0 := Lib.hid hr0
        have HR1 := Lib.hid hr1
        have HR2 := Lib.hid hr2
        have HR3 := Lib.hid hr3
        have HR4 := Lib.hid hr4
        clear hB hr0 hr1 hr2 hr3 hr4
        clear v
        rename World => v
        go_wp2_with fail
        refine qc_all (fun W => Below v.heap.size v W) (by kernel_rfl) (by kernel_rfl) (Below.refl _ _).drew ?_
        refine qc_take (.bool false) (by rfl) (fun W hW => ?_) ?_
        · (try dsimp only at hW)
          go_simp
        try simp only [List.getElem_toArray, List.getElem_cons_succ, List.getElem_cons_zero, Act.put, List.setIfInBounds_toArray, List.set_cons_zero, List.set_cons_succ]
        refine qc_take (.bool true) (by rfl) (fun W hW => ?_) ?_
        · (try dsimp only at hW)
          go_simp
        try simp only [List.getElem_toArray, List.getElem_cons_succ, List.getElem_cons_zero, Act.put, List.setIfInBounds_toArray, List.set_cons_zero, List.set_cons_succ]
        refine qc_take (.bool true) (by rfl) (fun W hW => ?_) ?_
        · (try dsimp only at hW)
          go_simp
        try simp only [List.getElem_toArray, List.getElem_cons_succ, List.getElem_cons_zero, Act.put, List.setIfInBounds_toArray, List.set_cons_zero, List.set_cons_succ]
        refine qc_take (.bool true) (by rfl) (fun W hW => ?_) ?_
        · (try dsimp only at hW)
          go_simp
        try simp only [List.getElem_toArray, List.getElem_cons_succ, List.getElem_cons_zero, Act.put, List.setIfInBounds_toArray, List.set_cons_zero, List.set_cons_succ]
        refine qc_take (.bool false) (by rfl) (fun W hW => ?_) ?_
        · (try dsimp only at hW)
          go_simp
        try simp only [List.getElem_toArray, List.getElem_cons_succ, List.getElem_cons_zero, Act.put, List.setIfInBounds_toArray, List.set_cons_zero, List.set_cons_succ]
        refine qc_take (.bool false) (by rfl) (fun W hW => ?_) ?_
        · (try dsimp only at hW)
          go_simp
        try simp only [List.getElem_toArray, List.getElem_cons_succ, List.getElem_cons_zero, Act.put, List.setIfInBounds_toArray, List.set_cons_zero, List.set_cons_succ]
        refine qc_take (.bool false) (by rfl) (fun W hW => ?_) ?_
        · (try dsimp only at hW)
          go_simp
        try simp only [List.getElem_toArray, List.getElem_cons_succ, List.getElem_cons_zero, Act.put, List.setIfInBounds_toArray, List.set_cons_zero, List.set_cons_succ]
        refine qc_take (.int .i64 a) (by rfl) (fun W hW => ?_) ?_
        · (try dsimp only at hW)
          go_simp
        try simp only [List.getElem_toArray, List.getElem_cons_succ, List.getElem_cons_zero, Act.put, List.setIfInBounds_toArray, List.set_cons_zero, List.set_cons_succ]
        refine qc_take (.agg #[.int .u64 j1, .int .u64 j2]) (by rfl) (fun W hW => ?_) ?_
        · (try dsimp only at hW)
          have y := Sn.bk_below HR4.out hW (Sn.bk_lt HR4.out)
          have y0 := Sn.bk_c y 0
          have y1 := Sn.bk_c y 1
          simp only [List.getElem?_toArray, List.getElem?_cons_zero, List.getElem?_cons_succ] at y0 y1
          go_simp
        try simp only [List.getElem_toArray, List.getElem_cons_succ, List.getElem_cons_zero, Act.put, List.setIfInBounds_toArray, List.set_cons_zero, List.set_cons_succ]
        refine qc_take (.int .u64 n) (by rfl) (fun W hW => ?_) ?_
        · (try dsimp only at hW)
          go_simp
        try simp only [List.getElem_toArray, List.getElem_cons_succ, List.getElem_cons_zero, Act.put, List.setIfInBounds_toArray, List.set_cons_zero, List.set_cons_succ]
        refine qc_take (.bool true) (by rfl) (fun W hW => ?_) ?_
        · (try dsimp only at hW)
          go_simp
          exact (C6.out W).mono fun e w9 h9 => ⟨h9.1, Sn.below_next hW h9.2 hW.size⟩
        try simp only [List.getElem_toArray, List.getElem_cons_succ, List.getElem_cons_zero, Act.put, List.setIfInBounds_toArray, List.set_cons_zero, List.set_cons_succ]
        refine qc_take (.bool true) (by rfl) (fun W hW => ?_) ?_
        · (try dsimp only at hW)
          go_simp
        try simp only [List.getElem_toArray, List.getElem_cons_succ, List.getElem_cons_zero, Act.put, List.setIfInBounds_toArray, List.set_cons_zero, List.set_cons_succ]
        refine qc_take (.bool true) (by rfl) (fun W hW => ?_) ?_
        · (try dsimp only at hW)
          go_simp
        try simp only [List.getElem_toArray, List.getElem_cons_succ, List.getElem_cons_zero, Act.put, List.setIfInBounds_toArray, List.set_cons_zero, List.set_cons_succ]
        refine qc_take (.int .i64 a) (by rfl) (fun W hW => ?_) ?_
        · (try dsimp only at hW)
          go_simp
        try simp only [List.getElem_toArray, List.getElem_cons_succ, List.getElem_cons_zero, Act.put, List.setIfInBounds_toArray, List.set_cons_zero, List.set_cons_succ]
        refine qc_take (.agg #[.int .u64 j1, .int .u64 j2]) (by rfl) (fun W hW => ?_) ?_
        · (try dsimp only at hW)
          have y := Sn.bk_below HR4.out hW (Sn.bk_lt HR4.out)
          have y0 := Sn.bk_c y 0
          have y1 := Sn.bk_c y 1
          simp only [List.getElem?_toArray, List.getElem?_cons_zero, List.getElem?_cons_succ] at y0 y1
          go_simp
        try simp only [List.getElem_toArray, List.getElem_cons_succ, List.getElem_cons_zero, Act.put, List.setIfInBounds_toArray, List.set_cons_zero, List.set_cons_succ]
        refine qc_take (.int .i64 a) (by rfl) (fun W hW => ?_) ?_
        · (try dsimp only at hW)
          go_simp
        try simp only [List.getElem_toArray, List.getElem_cons_succ, List.getElem_cons_zero, Act.put, List.setIfInBounds_toArray, List.set_cons_zero, List.set_cons_succ]
        refine qc_take (.agg #[.int .u64 x1, .int .u64 x2]) (by rfl) (fun W hW => ?_) ?_
        · (try dsimp only at hW)
          have y := Sn.bk_below HR0.out hW (Sn.bk_lt HR0.out)
          have y0 := Sn.bk_c y 0
          have y1 := Sn.bk_c y 1
          simp only [List.getElem?_toArray, List.getElem?_cons_zero, List.getElem?_cons_succ] at y0 y1
          go_simp
        try simp only [List.getElem_toArray, List.getElem_cons_succ, List.getElem_cons_zero, Act.put, List.setIfInBounds_toArray, List.set_cons_zero, List.set_cons_succ]
        refine qc_take (.agg #[.int .u64 p1, .int .u64 p2]) (by rfl) (fun W hW => ?_) ?_
        · (try dsimp only at hW)
          go_simp
          exact (HX.out W).mono fun e w9 h9 => ⟨h9.1, Sn.below_next hW h9.2 hW.size⟩
        try simp only [List.getElem_toArray, List.getElem_cons_succ, List.getElem_cons_zero, Act.put, List.setIfInBounds_toArray, List.set_cons_zero, List.set_cons_succ]
        refine qc_take (.int .u64 p1) (by rfl) (fun W hW => ?_) ?_
        · (try dsimp only at hW)
          go_simp
          simp [sp_fd0, sp_fd1]
        try simp only [List.getElem_toArray, List.getElem_cons_succ, List.getElem_cons_zero, Act.put, List.setIfInBounds_toArray, List.set_cons_zero, List.set_cons_succ]
        refine qc_take (.bool true) (by rfl) (fun W hW => ?_) ?_
        · (try dsimp only at hW)
          go_simp
          exact (C4.out W).mono fun e w9 h9 => ⟨h9.1, Sn.below_next hW h9.2 hW.size⟩
        try simp only [List.getElem_toArray, List.getElem_cons_succ, List.getElem_cons_zero, Act.put, List.setIfInBounds_toArray, List.set_cons_zero, List.set_cons_succ]
        refine qc_take (.bool true) (by rfl) (fun W hW => ?_) ?_
        · (try dsimp only at hW)
          go_simp
        try simp only [List.getElem_toArray, List.getElem_cons_succ, List.getElem_cons_zero, Act.put, List.setIfInBounds_toArray, List.set_cons_zero, List.set_cons_succ]
        refine qc_take (.bool true) (by rfl) (fun W hW => ?_) ?_
        · (try dsimp only at hW)
          go_simp
        try simp only [List.getElem_toArray, List.getElem_cons_succ, List.getElem_cons_zero, Act.put, List.setIfInBounds_toArray, List.set_cons_zero, List.set_cons_succ]
        refine qc_take (.int .i64 a) (by rfl) (fun W hW => ?_) ?_
        · (try dsimp only at hW)
          go_simp
        try simp only [List.getElem_toArray, List.getElem_cons_succ, List.getElem_cons_zero, Act.put, List.setIfInBounds_toArray, List.set_cons_zero, List.set_cons_succ]
        refine qc_take (.agg #[.int .u64 j1, .int .u64 j2]) (by rfl) (fun W hW => ?_) ?_
        · (try dsimp only at hW)
          have y := Sn.bk_below HR4.out hW (Sn.bk_lt HR4.out)
          have y0 := Sn.bk_c y 0
          have y1 := Sn.bk_c y 1
          simp only [List.getElem?_toArray, List.getElem?_cons_zero, List.getElem?_cons_succ] at y0 y1
          go_simp
        try simp only [List.getElem_toArray, List.getElem_cons_succ, List.getElem_cons_zero, Act.put, List.setIfInBounds_toArray, List.set_cons_zero, List.set_cons_succ]
        refine qc_take (.int .i64 a) (by rfl) (fun W hW => ?_) ?_
        · (try dsimp only at hW)
          go_simp
        try simp only [List.getElem_toArray, List.getElem_cons_succ, List.getElem_cons_zero, Act.put, List.setIfInBounds_toArray, List.set_cons_zero, List.set_cons_succ]
        refine qc_take (.agg #[.int .u64 y1, .int .u64 y2]) (by rfl) (fun W hW => ?_) ?_
        · (try dsimp only at hW)
          have y := Sn.bk_below HR1.out hW (Sn.bk_lt HR1.out)
          have y0 := Sn.bk_c y 0
          have y1 := Sn.bk_c y 1
          simp only [List.getElem?_toArray, List.getElem?_cons_zero, List.getElem?_cons_succ] at y0 y1
          go_simp
        try simp only [List.getElem_toArray, List.getElem_cons_succ, List.getElem_cons_zero, Act.put, List.setIfInBounds_toArray, List.set_cons_zero, List.set_cons_succ]
        refine qc_take (.agg #[.int .u64 q1, .int .u64 q2]) (by rfl) (fun W hW => ?_) ?_
        · (try dsimp only at hW)
          go_simp
          exact (HY.out W).mono fun e w9 h9 => ⟨h9.1, Sn.below_next hW h9.2 hW.size⟩
        try simp only [List.getElem_toArray, List.getElem_cons_succ, List.getElem_cons_zero, Act.put, List.setIfInBounds_toArray, List.set_cons_zero, List.set_cons_succ]
        refine qc_take (.int .u64 q2) (by rfl) (fun W hW => ?_) ?_
        · (try dsimp only at hW)
          go_simp
          simp [sp_fd0, sp_fd1]
        try simp only [List.getElem_toArray, List.getElem_cons_succ, List.getElem_cons_zero, Act.put, List.setIfInBounds_toArray, List.set_cons_zero, List.set_cons_succ]
        refine qc_take (.bool true) (by rfl) (fun W hW => ?_) ?_
        · (try dsimp only at hW)
          go_simp
          exact (C5.out W).mono fun e w9 h9 => ⟨h9.1, Sn.below_next hW h9.2 hW.size⟩
        try simp only [List.getElem_toArray, List.getElem_cons_succ, List.getElem_cons_zero, Act.put, List.setIfInBounds_toArray, List.set_cons_zero, List.set_cons_succ]
        refine qc_take (.bool true) (by rfl) (fun W hW => ?_) ?_
        · (try dsimp only at hW)
          go_simp
        try simp only [List.getElem_toArray, List.getElem_cons_succ, List.getElem_cons_zero, Act.put, List.setIfInBounds_toArray, List.set_cons_zero, List.set_cons_succ]
        refine qc_take (.bool true) (by rfl) (fun W hW => ?_) ?_
        · (try dsimp only at hW)
          go_simp
        try simp only [List.getElem_toArray, List.getElem_cons_succ, List.getElem_cons_zero, Act.put, List.setIfInBounds_toArray, List.set_cons_zero, List.set_cons_succ]
        refine wpQuiet_nil ?_
        intro v2 hb
        have hr0 := Sn.bk_below HR0.out hb (Sn.bk_lt HR0.out)
        have hB := Sn.below_next HB.out hb HB.out.size
        clear HB HR0 hb
        have HB := Lib.hid hB
        have HR0 := Lib.hid hr0
        clear hB hr0
        go_wp2_with fail
        go_ret
        exact ⟨rfl, HB.out⟩
      | true =>
        have d4 : Sn.has a (m1, m2) n = false := by rw [d1, d2] at f1; simpa using f1.symm
        have hC1 : Sn.has a (x1, x2) n = false := d1
        have hC2 : Sn.has a (y1, y2) n = true := d2
        clear d1 d2
        have C1 : Hid (∀ W : World, Calls Try.prog 13 #[.int .i64 a, Sn.v (x1, x2), .int .u64 n] W fun e w' => e = .returned (.bool false) ∧ Below W.heap.size W w') := Lib.hid (fun W => by
          have h := has_any a (x1, x2) n W
          rw [hC1] at h
          exact h)
        have C2 : Hid (∀ W : World, Calls Try.prog 13 #[.int .i64 a, Sn.v (y1, y2), .int .u64 n] W fun e w' => e = .returned (.bool true) ∧ Below W.heap.size W w') := Lib.hid (fun W => by
          have h := has_any a (y1, y2) n W
          rw [hC2] at h
          exact h)
        have C4 : Hid (∀ W : World, Calls Try.prog 13 #[.int .i64 a, Sn.v (j1, j2), .int .u64 p1] W fun e w' => e = .returned (.bool true) ∧ Below W.heap.size W w') := Lib.hid (fun W => by
          have h := has_any a (j1, j2) p1 W
          rw [f3] at h
          exact h)
        have C5 : Hid (∀ W : World, Calls Try.prog 13 #[.int .i64 a, Sn.v (j1, j2), .int .u64 q2] W fun e w' => e = .returned (.bool true) ∧ Below W.heap.size W w') := Lib.hid (fun W => by
          have h := has_any a (j1, j2) q2 W
          rw [f4] at h
          exact h)
        have hC3 : Sn.has a (m1, m2) n = false := by simpa using d4
        clear d4
        have C3 : Hid (∀ W : World, Calls Try.prog 13 #[.int .i64 a, Sn.v (m1, m2), .int .u64 n] W fun e w' => e = .returned (.bool false) ∧ Below W.heap.size W w') := Lib.hid (fun W => by
          have h := has_any a (m1, m2) n W
          rw [hC3] at h
          exact h)
        clear hC3
        have hC6 : Sn.has a (j1, j2) n = true := f2 (.inr hC2)
        have C6 : Hid (∀ W : World, Calls Try.prog 13 #[.int .i64 a, Sn.v (j1, j2), .int .u64 n] W fun e w' => e = .returned (.bool true) ∧ Below W.heap.size W w') := Lib.hid (fun W => by
          have h := has_any a (j1, j2) n W
          rw [hC6] at h
          exact h)
        clear hC6
        clear hC1 hC2 f1 f2 f3 f4
        show Calls Try.prog 5 #[.int .i64 a, .agg #[.int .u64 x1, .int .u64 x2], .agg #[.int .u64 y1, .int .u64 y2], .int .u64 n] w _
        go_enter Try.func5, Try.ntmps5
        go_upto_region 1 with (fail)
        have hB : Below w.heap.size w ((w.alloc (.cells #[.int .u64 x1, .int .u64 x2] 24)).alloc (.cells #[.int .u64 y1, .int .u64 y2] 24)) := (((Below.refl _ _).alloc (Nat.le_refl _) _).alloc (by simp) _)
        have hr0 : Sn.Bk ((w.alloc (.cells #[.int .u64 x1, .int .u64 x2] 24)).alloc (.cells #[.int .u64 y1, .int .u64 y2] 24)) (w.heap.size) 24 #[.int .u64 x1, .int .u64 x2] := Sn.bk_old (Sn.bk_new _ _ _) _
        have hr1 : Sn.Bk ((w.alloc (.cells #[.int .u64 x1, .int .u64 x2] 24)).alloc (.cells #[.int .u64 y1, .int .u64 y2] 24)) (w.heap.size + 1) 24 #[.int .u64 y1, .int .u64 y2] := Sn.bk_at (by simp)
        generalize ((w.alloc (.cells #[.int .u64 x1, .int .u64 x2] 24)).alloc (.cells #[.int .u64 y1, .int .u64 y2] 24)) = v at *
        have HB := Lib.hid hB
        have HR0 := Lib.hid hr0
        have HR1 := Lib.hid hr1
        clear hB hr0 hr1
        go_wp2_with fail
        refine (sn_awake v).mono ?_
        rintro e v2 ⟨rfl, hb⟩
        have hr0 := Sn.bk_below HR0.out hb (Sn.bk_lt HR0.out)
        have hr1 := Sn.bk_below HR1.out hb (Sn.bk_lt HR1.out)
        have hB := Sn.below_next HB.out hb HB.out.size
        clear HB HR0 HR1 hb
        have HB := Lib.hid hB
        have HR0 := Lib.hid hr0
        have HR1 := Lib.hid hr1
        clear hB hr0 hr1
        clear v
        rename World => v
        have c0_0 := Sn.bk_c HR0.out 0
        have c0_1 := Sn.bk_c HR0.out 1
        have c1_0 := Sn.bk_c HR1.out 0
        have c1_1 := Sn.bk_c HR1.out 1
        simp only [List.getElem?_toArray, List.getElem?_cons_zero, List.getElem?_cons_succ] at c0_0 c0_1 c1_0 c1_1
        go_wp2_with fail
        clear c0_0 c0_1 c1_0 c1_1
        refine (HM.out v).mono ?_
        rintro e v2 ⟨rfl, hb⟩
        have hr0 := Sn.bk_below HR0.out hb (Sn.bk_lt HR0.out)
        have hr1 := Sn.bk_below HR1.out hb (Sn.bk_lt HR1.out)
        have hB := Sn.below_next HB.out hb HB.out.size
        clear HB HR0 HR1 hb
        have HB := Lib.hid hB
        have HR0 := Lib.hid hr0
        have HR1 := Lib.hid hr1
        clear hB hr0 hr1
        clear v
        rename World => v
        go_upto_region 4 with (fail)
        have hB : Below w.heap.size w (v.alloc (.cells #[.int .u64 m1, .int .u64 m2] 24)) := (HB.out).alloc (by exact HB.out.size) _
        have hr0 : Sn.Bk (v.alloc (.cells #[.int .u64 m1, .int .u64 m2] 24)) (w.heap.size) 24 #[.int .u64 x1, .int .u64 x2] := Sn.bk_old (HR0.out) _
        have hr1 : Sn.Bk (v.alloc (.cells #[.int .u64 m1, .int .u64 m2] 24)) (w.heap.size + 1) 24 #[.int .u64 y1, .int .u64 y2] := Sn.bk_old (HR1.out) _
        have hr2 : Sn.Bk (v.alloc (.cells #[.int .u64 m1, .int .u64 m2] 24)) (v.heap.size) 24 #[.int .u64 m1, .int .u64 m2] := Sn.bk_new _ _ _
        clear HB HR0 HR1
        generalize (v.alloc (.cells #[.int .u64 m1, .int .u64 m2] 24)) = u at *
        generalize v.heap.size = b3 at *
        clear v
        rename World => v
        have HB := Lib.hid hB
        have HR0 := Lib.hid hr0
        have HR1 := Lib.hid hr1
        have HR2 := Lib.hid hr2
        clear hB hr0 hr1 hr2
        have c0_0 := Sn.bk_c HR0.out 0
        have c0_1 := Sn.bk_c HR0.out 1
        have c1_0 := Sn.bk_c HR1.out 0
        have c1_1 := Sn.bk_c HR1.out 1
        simp only [List.getElem?_toArray, List.getElem?_cons_zero, List.getElem?_cons_succ] at c0_0 c0_1 c1_0 c1_1
        go_wp2_with fail
        clear c0_0 c0_1 c1_0 c1_1
        refine (HM2.out v).mono ?_
        rintro e v2 ⟨rfl, hb⟩
        have hr0 := Sn.bk_below HR0.out hb (Sn.bk_lt HR0.out)
        have hr1 := Sn.bk_below HR1.out hb (Sn.bk_lt HR1.out)
        have hr2 := Sn.bk_below HR2.out hb (Sn.bk_lt HR2.out)
        have hB := Sn.below_next HB.out hb HB.out.size
        clear HB HR0 HR1 HR2 hb
        have HB := Lib.hid hB
        have HR0 := Lib.hid hr0
        have HR1 := Lib.hid hr1
        have HR2 := Lib.hid hr2
        clear hB hr0 hr1 hr2
        clear v
        rename World => v
        go_upto_region 5 with (fail)
        have hB : Below w.heap.size w (v.alloc (.cells #[.int .u64 m1, .int .u64 m2] 24)) := (HB.out).alloc (by exact HB.out.size) _
        have hr0 : Sn.Bk (v.alloc (.cells #[.int .u64 m1, .int .u64 m2] 24)) (w.heap.size) 24 #[.int .u64 x1, .int .u64 x2] := Sn.bk_old (HR0.out) _
        have hr1 : Sn.Bk (v.alloc (.cells #[.int .u64 m1, .int .u64 m2] 24)) (w.heap.size + 1) 24 #[.int .u64 y1, .int .u64 y2] := Sn.bk_old (HR1.out) _
        have hr2 : Sn.Bk (v.alloc (.cells #[.int .u64 m1, .int .u64 m2] 24)) (b3) 24 #[.int .u64 m1, .int .u64 m2] := Sn.bk_old (HR2.out) _
        have hr3 : Sn.Bk (v.alloc (.cells #[.int .u64 m1, .int .u64 m2] 24)) (v.heap.size) 24 #[.int .u64 m1, .int .u64 m2] := Sn.bk_new _ _ _
        clear HB HR0 HR1 HR2
        generalize (v.alloc (.cells #[.int .u64 m1, .int .u64 m2] 24)) = u at *
        generalize v.heap.size = b4 at *
        clear v
        rename World => v
        have HB := Lib.hid hB
        have HR0 := Lib.hid hr0
        have HR1 := Lib.hid hr1
        have HR2 := Lib.hid hr2
        have HR3 := Lib.hid hr3
        clear hB hr0 hr1 hr2 hr3
        have c0_0 := Sn.bk_c HR0.out 0
        have c0_1 := Sn.bk_c HR0.out 1
        have c1_0 := Sn.bk_c HR1.out 0
        have c1_1 := Sn.bk_c HR1.out 1
        simp only [List.getElem?_toArray, List.getElem?_cons_zero, List.getElem?_cons_succ] at c0_0 c0_1 c1_0 c1_1
        go_wp2_with fail
        clear c0_0 c0_1 c1_0 c1_1
        refine (HJ.out v).mono ?_
        rintro e v2 ⟨rfl, hb⟩
        have hr0 := Sn.bk_below HR0.out hb (Sn.bk_lt HR0.out)
        have hr1 := Sn.bk_below HR1.out hb (Sn.bk_lt HR1.out)
        have hr2 := Sn.bk_below HR2.out hb (Sn.bk_lt HR2.out)
        have hr3 := Sn.bk_below HR3.out hb (Sn.bk_lt HR3.out)
        have hB := Sn.below_next HB.out hb HB.out.size
        clear HB HR0 HR1 HR2 HR3 hb
        have HB := Lib.hid hB
        have HR0 := Lib.hid hr0
        have HR1 := Lib.hid hr1
        have HR2 := Lib.hid hr2
        have HR3 := Lib.hid hr3
        clear hB hr0 hr1 hr2 hr3
        clear v
        rename World => v
        go_upto_region 6 with (fail)
        have hB : Below w.heap.size w (v.alloc (.cells #[.int .u64 j1, .int .u64 j2] 24)) := (HB.out).alloc (by exact HB.out.size) _
        have hr0 : Sn.Bk (v.alloc (.cells #[.int .u64 j1, .int .u64 j2] 24)) (w.heap.size) 24 #[.int .u64 x1, .int .u64 x2] := Sn.bk_old (HR0.out) _
        have hr1 : Sn.Bk (v.alloc (.cells #[.int .u64 j1, .int .u64 j2] 24)) (w.heap.size + 1) 24 #[.int .u64 y1, .int .u64 y2] := Sn.bk_old (HR1.out) _
        have hr2 : Sn.Bk (v.alloc (.cells #[.int .u64 j1, .int .u64 j2] 24)) (b3) 24 #[.int .u64 m1, .int .u64 m2] := Sn.bk_old (HR2.out) _
        have hr3 : Sn.Bk (v.alloc (.cells #[.int .u64 j1, .int .u64 j2] 24)) (b4) 24 #[.int .u64 m1, .int .u64 m2] := Sn.bk_old (HR3.out) _
        have hr4 : Sn.Bk (v.alloc (.cells #[.int .u64 j1, .int .u64 j2] 24)) (v.heap.size) 24 #[.int .u64 j1, .int .u64 j2] := Sn.bk_new _ _ _
        clear HB HR0 HR1 HR2 HR3
        generalize (v.alloc (.cells #[.int .u64 j1, .int .u64 j2] 24)) = u at *
        generalize v.heap.size = b5 at *
        clear v
        rename World => v
        have HB := Lib.hid hB
        have HR0 := Lib.hid hr0
        have HR1 := Lib.hid hr1
        have HR2 := Lib.hid hr2
        have HR3 := Lib.hid hr3
        have HR4 := Lib.hid hr4
        clear hB hr0 hr1 hr2 hr3 hr4
        refine qc_all (fun W => Below v.heap.size v W) (by kernel_rfl) (by kernel_rfl) (Below.refl _ _).drew ?_
        refine qc_take (.int .i64 a) (by rfl) (fun W hW => ?_) ?_
        · (try dsimp only at hW)
          go_simp
        try simp only [List.getElem_toArray, List.getElem_cons_succ, List.getElem_cons_zero, Act.put, List.setIfInBounds_toArray, List.set_cons_zero, List.set_cons_succ]
        refine qc_take (.agg #[.int .u64 x1, .int .u64 x2]) (by rfl) (fun W hW => ?_) ?_
        · (try dsimp only at hW)
          have y := Sn.bk_below HR0.out hW (Sn.bk_lt HR0.out)
          have y0 := Sn.bk_c y 0
          have y1 := Sn.bk_c y 1
          simp only [List.getElem?_toArray, List.getElem?_cons_zero, List.getElem?_cons_succ] at y0 y1
          go_simp
        try simp only [List.getElem_toArray, List.getElem_cons_succ, List.getElem_cons_zero, Act.put, List.setIfInBounds_toArray, List.set_cons_zero, List.set_cons_succ]
        refine qc_take (.int .u64 n) (by rfl) (fun W hW => ?_) ?_
        · (try dsimp only at hW)
          go_simp
        try simp only [List.getElem_toArray, List.getElem_cons_succ, List.getElem_cons_zero, Act.put, List.setIfInBounds_toArray, List.set_cons_zero, List.set_cons_succ]
        refine qc_take (.bool false) (by rfl) (fun W hW => ?_) ?_
        · (try dsimp only at hW)
          go_simp
          exact (C1.out W).mono fun e w9 h9 => ⟨h9.1, Sn.below_next hW h9.2 hW.size⟩
        try simp only [List.getElem_toArray, List.getElem_cons_succ, List.getElem_cons_zero, Act.put, List.setIfInBounds_toArray, List.set_cons_zero, List.set_cons_succ]
        refine qc_take (.int .i64 a) (by rfl) (fun W hW => ?_) ?_
        · (try dsimp only at hW)
          go_simp
        try simp only [List.getElem_toArray, List.getElem_cons_succ, List.getElem_cons_zero, Act.put, List.setIfInBounds_toArray, List.set_cons_zero, List.set_cons_succ]
        refine qc_take (.agg #[.int .u64 y1, .int .u64 y2]) (by rfl) (fun W hW => ?_) ?_
        · (try dsimp only at hW)
          have y := Sn.bk_below HR1.out hW (Sn.bk_lt HR1.out)
          have y0 := Sn.bk_c y 0
          have y1 := Sn.bk_c y 1
          simp only [List.getElem?_toArray, List.getElem?_cons_zero, List.getElem?_cons_succ] at y0 y1
          go_simp
        try simp only [List.getElem_toArray, List.getElem_cons_succ, List.getElem_cons_zero, Act.put, List.setIfInBounds_toArray, List.set_cons_zero, List.set_cons_succ]
        refine qc_take (.int .u64 n) (by rfl) (fun W hW => ?_) ?_
        · (try dsimp only at hW)
          go_simp
        try simp only [List.getElem_toArray, List.getElem_cons_succ, List.getElem_cons_zero, Act.put, List.setIfInBounds_toArray, List.set_cons_zero, List.set_cons_succ]
        refine qc_take (.bool true) (by rfl) (fun W hW => ?_) ?_
        · (try dsimp only at hW)
          go_simp
          exact (C2.out W).mono fun e w9 h9 => ⟨h9.1, Sn.below_next hW h9.2 hW.size⟩
        try simp only [List.getElem_toArray, List.getElem_cons_succ, List.getElem_cons_zero, Act.put, List.setIfInBounds_toArray, List.set_cons_zero, List.set_cons_succ]
        refine qc_take (.bool false) (by rfl) (fun W hW => ?_) ?_
        · (try dsimp only at hW)
          go_simp
        try simp only [List.getElem_toArray, List.getElem_cons_succ, List.getElem_cons_zero, Act.put, List.setIfInBounds_toArray, List.set_cons_zero, List.set_cons_succ]
        refine qc_take (.bool true) (by rfl) (fun W hW => ?_) ?_
        · (try dsimp only at hW)
          go_simp
        try simp only [List.getElem_toArray, List.getElem_cons_succ, List.getElem_cons_zero, Act.put, List.setIfInBounds_toArray, List.set_cons_zero, List.set_cons_succ]
        refine wpQuiet_nil ?_
        intro v2 hb
        have hr0 := Sn.bk_below HR0.out hb (Sn.bk_lt HR0.out)
        have hr1 := Sn.bk_below HR1.out hb (Sn.bk_lt HR1.out)
        have hr2 := Sn.bk_below HR2.out hb (Sn.bk_lt HR2.out)
        have hr3 := Sn.bk_below HR3.out hb (Sn.bk_lt HR3.out)
        have hr4 := Sn.bk_below HR4.out hb (Sn.bk_lt HR4.out)
        have hB := Sn.below_next HB.out hb HB.out.size
        clear HB HR0 HR1 HR2 HR3 HR4 hb
        have HB := Lib.hid hB
        have HR0 := Lib.hid hr0
        have HR1 := Lib.hid hr1
        have HR2 := Lib.hid hr2
        have HR3 := Lib.hid hr3
        have HR4 := Lib.hid hr4
        clear hB hr0 hr1 hr2 hr3 hr4
        clear v
        rename World => v
        go_wp2_with fail
        refine qc_all (fun W => Below v.heap.size v W) (by kernel_rfl) (by kernel_rfl) (Below.refl _ _).drew ?_
        refine qc_take (.bool true) (by rfl) (fun W hW => ?_) ?_
        · (try dsimp only at hW)
          go_simp
        try simp only [List.getElem_toArray, List.getElem_cons_succ, List.getElem_cons_zero, Act.put, List.setIfInBounds_toArray, List.set_cons_zero, List.set_cons_succ]
        refine qc_take (.bool true) (by rfl) (fun W hW => ?_) ?_
        · (try dsimp only at hW)
          go_simp
        try simp only [List.getElem_toArray, List.getElem_cons_succ, List.getElem_cons_zero, Act.put, List.setIfInBounds_toArray, List.set_cons_zero, List.set_cons_succ]
        refine qc_take (.bool false) (by rfl) (fun W hW => ?_) ?_
        · (try dsimp only at hW)
          go_simp
        try simp only [List.getElem_toArray, List.getElem_cons_succ, List.getElem_cons_zero, Act.put, List.setIfInBounds_toArray, List.set_cons_zero, List.set_cons_succ]
        refine qc_take (.bool false) (by rfl) (fun W hW => ?_) ?_
        · (try dsimp only at hW)
          go_simp
        try simp only [List.getElem_toArray, List.getElem_cons_succ, List.getElem_cons_zero, Act.put, List.setIfInBounds_toArray, List.set_cons_zero, List.set_cons_succ]
        refine qc_take (.agg #[.int .u64 m1, .int .u64 m2]) (by rfl) (fun W hW => ?_) ?_
        · (try dsimp only at hW)
          have y := Sn.bk_below HR2.out hW (Sn.bk_lt HR2.out)
          have y0 := Sn.bk_c y 0
          have y1 := Sn.bk_c y 1
          simp only [List.getElem?_toArray, List.getElem?_cons_zero, List.getElem?_cons_succ] at y0 y1
          go_simp
        try simp only [List.getElem_toArray, List.getElem_cons_succ, List.getElem_cons_zero, Act.put, List.setIfInBounds_toArray, List.set_cons_zero, List.set_cons_succ]
        refine qc_take (.agg #[.int .u64 m1, .int .u64 m2]) (by rfl) (fun W hW => ?_) ?_
        · (try dsimp only at hW)
          have y := Sn.bk_below HR3.out hW (Sn.bk_lt HR3.out)
          have y0 := Sn.bk_c y 0
          have y1 := Sn.bk_c y 1
          simp only [List.getElem?_toArray, List.getElem?_cons_zero, List.getElem?_cons_succ] at y0 y1
          go_simp
        try simp only [List.getElem_toArray, List.getElem_cons_succ, List.getElem_cons_zero, Act.put, List.setIfInBounds_toArray, List.set_cons_zero, List.set_cons_succ]
        refine qc_take (.bool false) (by rfl) (fun W hW => ?_) ?_
        · (try dsimp only at hW)
          go_simp
        try simp only [List.getElem_toArray, List.getElem_cons_succ, List.getElem_cons_zero, Act.put, List.setIfInBounds_toArray, List.set_cons_zero, List.set_cons_succ]
        refine qc_take (.bool false) (by rfl) (fun W hW => ?_) ?_
        · (try dsimp only at hW)
          go_simp
        try simp only [List.getElem_toArray, List.getElem_cons_succ, List.getElem_cons_zero, Act.put, List.setIfInBounds_toArray, List.set_cons_zero, List.set_cons_succ]
        refine qc_take (.bool false) (by rfl) (fun W hW => ?_) ?_
        · (try dsimp only at hW)
          go_simp
        try simp only [List.getElem_toArray, List.getElem_cons_succ, List.getElem_cons_zero, Act.put, List.setIfInBounds_toArray, List.set_cons_zero, List.set_cons_succ]
        refine qc_take (.agg #[.int .u64 j1, .int .u64 j2]) (by rfl) (fun W hW => ?_) ?_
        · (try dsimp only at hW)
          have y := Sn.bk_below HR4.out hW (Sn.bk_lt HR4.out)
          have y0 := Sn.bk_c y 0
          have y1 := Sn.bk_c y 1
          simp only [List.getElem?_toArray, List.getElem?_cons_zero, List.getElem?_cons_succ] at y0 y1
          go_simp
        try simp only [List.getElem_toArray, List.getElem_cons_succ, List.getElem_cons_zero, Act.put, List.setIfInBounds_toArray, List.set_cons_zero, List.set_cons_succ]
        refine qc_take (.int .i64 a) (by rfl) (fun W hW => ?_) ?_
        · (try dsimp only at hW)
          go_simp
        try simp only [List.getElem_toArray, List.getElem_cons_succ, List.getElem_cons_zero, Act.put, List.setIfInBounds_toArray, List.set_cons_zero, List.set_cons_succ]
        refine qc_take (.agg #[.int .u64 y1, .int .u64 y2]) (by rfl) (fun W hW => ?_) ?_
        · (try dsimp only at hW)
          have y := Sn.bk_below HR1.out hW (Sn.bk_lt HR1.out)
          have y0 := Sn.bk_c y 0
          have y1 := Sn.bk_c y 1
          simp only [List.getElem?_toArray, List.getElem?_cons_zero, List.getElem?_cons_succ] at y0 y1
          go_simp
        try simp only [List.getElem_toArray, List.getElem_cons_succ, List.getElem_cons_zero, Act.put, List.setIfInBounds_toArray, List.set_cons_zero, List.set_cons_succ]
        refine qc_take (.agg #[.int .u64 x1, .int .u64 x2]) (by rfl) (fun W hW => ?_) ?_
        · (try dsimp only at hW)
          have y := Sn.bk_below HR0.out hW (Sn.bk_lt HR0.out)
          have y0 := Sn.bk_c y 0
          have y1 := Sn.bk_c y 1
          simp only [List.getElem?_toArray, List.getElem?_cons_zero, List.getElem?_cons_succ] at y0 y1
          go_simp
        try simp only [List.getElem_toArray, List.getElem_cons_succ, List.getElem_cons_zero, Act.put, List.setIfInBounds_toArray, List.set_cons_zero, List.set_cons_succ]
        refine qc_take (.agg #[.int .u64 j1, .int .u64 j2]) (by rfl) (fun W hW => ?_) ?_
        · (try dsimp only at hW)
          go_simp
          exact (HJ2.out W).mono fun e w9 h9 => ⟨h9.1, Sn.below_next hW h9.2 hW.size⟩
        try simp only [List.getElem_toArray, List.getElem_cons_succ, List.getElem_cons_zero, Act.put, List.setIfInBounds_toArray, List.set_cons_zero, List.set_cons_succ]
        refine qc_take (.bool false) (by rfl) (fun W hW => ?_) ?_
        · (try dsimp only at hW)
          go_simp
        try simp only [List.getElem_toArray, List.getElem_cons_succ, List.getElem_cons_zero, Act.put, List.setIfInBounds_toArray, List.set_cons_zero, List.set_cons_succ]
        refine qc_take (.bool false) (by rfl) (fun W hW => ?_) ?_
        · (try dsimp only at hW)
          go_simp
        try simp only [List.getElem_toArray, List.getElem_cons_succ, List.getElem_cons_zero, Act.put, List.setIfInBounds_toArray, List.set_cons_zero, List.set_cons_succ]
        refine qc_take (.bool false) (by rfl) (fun W hW => ?_) ?_
        · (try dsimp only at hW)
          go_simp
        try simp only [List.getElem_toArray, List.getElem_cons_succ, List.getElem_cons_zero, Act.put, List.setIfInBounds_toArray, List.set_cons_zero, List.set_cons_succ]
        refine qc_take (.bool false) (by rfl) (fun W hW => ?_) ?_
        · (try dsimp only at hW)
          go_simp
        try simp only [List.getElem_toArray, List.getElem_cons_succ, List.getElem_cons_zero, Act.put, List.setIfInBounds_toArray, List.set_cons_zero, List.set_cons_succ]
        refine qc_take (.bool false) (by rfl) (fun W hW => ?_) ?_
        · (try dsimp only at hW)
          go_simp
        try simp only [List.getElem_toArray, List.getElem_cons_succ, List.getElem_cons_zero, Act.put, List.setIfInBounds_toArray, List.set_cons_zero, List.set_cons_succ]
        refine qc_skip (by rfl) ?_
        try simp only [List.getElem_toArray, List.getElem_cons_succ, List.getElem_cons_zero, Act.put, List.setIfInBounds_toArray, List.set_cons_zero, List.set_cons_succ]
        refine qc_take (.bool false) (by rfl) (fun W hW => ?_) ?_
        · (try dsimp only at hW)
          go_simp
        try simp only [List.getElem_toArray, List.getElem_cons_succ, List.getElem_cons_zero, Act.put, List.setIfInBounds_toArray, List.set_cons_zero, List.set_cons_succ]
        refine qc_take (.bool true) (by rfl) (fun W hW => ?_) ?_
        · (try dsimp only at hW)
          go_simp
        try simp only [List.getElem_toArray, List.getElem_cons_succ, List.getElem_cons_zero, Act.put, List.setIfInBounds_toArray, List.set_cons_zero, List.set_cons_succ]
        refine qc_take (.bool true) (by rfl) (fun W hW => ?_) ?_
        · (try dsimp only at hW)
          go_simp
        try simp only [List.getElem_toArray, List.getElem_cons_succ, List.getElem_cons_zero, Act.put, List.setIfInBounds_toArray, List.set_cons_zero, List.set_cons_succ]
        refine qc_take (.int .i64 a) (by rfl) (fun W hW => ?_) ?_
        · (try dsimp only at hW)
          go_simp
        try simp only [List.getElem_toArray, List.getElem_cons_succ, List.getElem_cons_zero, Act.put, List.setIfInBounds_toArray, List.set_cons_zero, List.set_cons_succ]
        refine qc_take (.agg #[.int .u64 m1, .int .u64 m2]) (by rfl) (fun W hW => ?_) ?_
        · (try dsimp only at hW)
          have y := Sn.bk_below HR2.out hW (Sn.bk_lt HR2.out)
          have y0 := Sn.bk_c y 0
          have y1 := Sn.bk_c y 1
          simp only [List.getElem?_toArray, List.getElem?_cons_zero, List.getElem?_cons_succ] at y0 y1
          go_simp
        try simp only [List.getElem_toArray, List.getElem_cons_succ, List.getElem_cons_zero, Act.put, List.setIfInBounds_toArray, List.set_cons_zero, List.set_cons_succ]
        refine qc_take (.int .u64 n) (by rfl) (fun W hW => ?_) ?_
        · (try dsimp only at hW)
          go_simp
        try simp only [List.getElem_toArray, List.getElem_cons_succ, List.getElem_cons_zero, Act.put, List.setIfInBounds_toArray, List.set_cons_zero, List.set_cons_succ]
        refine qc_take (.bool false) (by rfl) (fun W hW => ?_) ?_
        · (try dsimp only at hW)
          go_simp
          exact (C3.out W).mono fun e w9 h9 => ⟨h9.1, Sn.below_next hW h9.2 hW.size⟩
        try simp only [List.getElem_toArray, List.getElem_cons_succ, List.getElem_cons_zero, Act.put, List.setIfInBounds_toArray, List.set_cons_zero, List.set_cons_succ]
        refine qc_take (.bool false) (by rfl) (fun W hW => ?_) ?_
        · (try dsimp only at hW)
          go_simp
        try simp only [List.getElem_toArray, List.getElem_cons_succ, List.getElem_cons_zero, Act.put, List.setIfInBounds_toArray, List.set_cons_zero, List.set_cons_succ]
        refine qc_take (.bool false) (by rfl) (fun W hW => ?_) ?_
        · (try dsimp only at hW)
          go_simp
        try simp only [List.getElem_toArray, List.getElem_cons_succ, List.getElem_cons_zero, Act.put, List.setIfInBounds_toArray, List.set_cons_zero, List.set_cons_succ]
        refine qc_take (.bool false) (by rfl) (fun W hW => ?_) ?_
        · (try dsimp only at hW)
          go_simp
        try simp only [List.getElem_toArray, List.getElem_cons_succ, List.getElem_cons_zero, Act.put, List.setIfInBounds_toArray, List.set_cons_zero, List.set_cons_succ]
        refine wpQuiet_nil ?_
        intro v2 hb
        have hr0 := Sn.bk_below HR0.out hb (Sn.bk_lt HR0.out)
        have hr1 := Sn.bk_below HR1.out hb (Sn.bk_lt HR1.out)
        have hr2 := Sn.bk_below HR2.out hb (Sn.bk_lt HR2.out)
        have hr3 := Sn.bk_below HR3.out hb (Sn.bk_lt HR3.out)
        have hr4 := Sn.bk_below HR4.out hb (Sn.bk_lt HR4.out)
        have hB := Sn.below_next HB.out hb HB.out.size
        clear HB HR0 HR1 HR2 HR3 HR4 hb
        have HB := Lib.hid hB
        have HR0 := Lib.hid hr0
        have HR1 := Lib.hid hr1
        have HR2 := Lib.hid hr2
        have HR3 := Lib.hid hr3
        have HR4 := Lib.hid hr4
        clear hB hr0 hr1 hr2 hr3 hr4
        clear v
        rename World => v
        go_wp2_with fail
        refine qc_all (fun W => Below v.heap.size v W) (by kernel_rfl) (by kernel_rfl) (Below.refl _ _).drew ?_
        refine qc_take (.bool false) (by rfl) (fun W hW => ?_) ?_
        · (try dsimp only at hW)
          go_simp
        try simp only [List.getElem_toArray, List.getElem_cons_succ, List.getElem_cons_zero, Act.put, List.setIfInBounds_toArray, List.set_cons_zero, List.set_cons_succ]
        refine qc_take (.bool true) (by rfl) (fun W hW => ?_) ?_
        · (try dsimp only at hW)
          go_simp
        try simp only [List.getElem_toArray, List.getElem_cons_succ, List.getElem_cons_zero, Act.put, List.setIfInBounds_toArray, List.set_cons_zero, List.set_cons_succ]
        refine qc_take (.bool true) (by rfl) (fun W hW => ?_) ?_
        · (try dsimp only at hW)
          go_simp
        try simp only [List.getElem_toArray, List.getElem_cons_succ, List.getElem_cons_zero, Act.put, List.setIfInBounds_toArray, List.set_cons_zero, List.set_cons_succ]
        refine qc_take (.bool true) (by rfl) (fun W hW => ?_) ?_
        · (try dsimp only at hW)
          go_simp
        try simp only [List.getElem_toArray, List.getElem_cons_succ, List.getElem_cons_zero, Act.put, List.setIfInBounds_toArray, List.set_cons_zero, List.set_cons_succ]
        refine qc_take (.bool false) (by rfl) (fun W hW => ?_) ?_
        · (try dsimp only at hW)
          go_simp
        try simp only [List.getElem_toArray, List.getElem_cons_succ, List.getElem_cons_zero, Act.put, List.setIfInBounds_toArray, List.set_cons_zero, List.set_cons_succ]
        refine qc_take (.bool false) (by rfl) (fun W hW => ?_) ?_
        · (try dsimp only at hW)
          go_simp
        try simp only [List.getElem_toArray, List.getElem_cons_succ, List.getElem_cons_zero, Act.put, List.setIfInBounds_toArray, List.set_cons_zero, List.set_cons_succ]
        refine qc_take (.bool false) (by rfl) (fun W hW => ?_) ?_
        · (try dsimp only at hW)
          go_simp
        try simp only [List.getElem_toArray, List.getElem_cons_succ, List.getElem_cons_zero, Act.put, List.setIfInBounds_toArray, List.set_cons_zero, List.set_cons_succ]
        refine qc_take (.int .i64 a) (by rfl) (fun W hW => ?_) ?_
        · (try dsimp only at hW)
          go_simp
        try simp only [List.getElem_toArray, List.getElem_cons_succ, List.getElem_cons_zero, Act.put, List.setIfInBounds_toArray, List.set_cons_zero, List.set_cons_succ]
        refine qc_take (.agg #[.int .u64 j1, .int .u64 j2]) (by rfl) (fun W hW => ?_) ?_
        · (try dsimp only at hW)
          have y := Sn.bk_below HR4.out hW (Sn.bk_lt HR4.out)
          have y0 := Sn.bk_c y 0
          have y1 := Sn.bk_c y 1
          simp only [List.getElem?_toArray, List.getElem?_cons_zero, List.getElem?_cons_succ] at y0 y1
          go_simp
        try simp only [List.getElem_toArray, List.getElem_cons_succ, List.getElem_cons_zero, Act.put, List.setIfInBounds_toArray, List.set_cons_zero, List.set_cons_succ]
        refine qc_take (.int .u64 n) (by rfl) (fun W hW => ?_) ?_
        · (try dsimp only at hW)
          go_simp
        try simp only [List.getElem_toArray, List.getElem_cons_succ, List.getElem_cons_zero, Act.put, List.setIfInBounds_toArray, List.set_cons_zero, List.set_cons_succ]
        refine qc_take (.bool true) (by rfl) (fun W hW => ?_) ?_
        · (try dsimp only at hW)
          go_simp
          exact (C6.out W).mono fun e w9 h9 => ⟨h9.1, Sn.below_next hW h9.2 hW.size⟩
        try simp only [List.getElem_toArray, List.getElem_cons_succ, List.getElem_cons_zero, Act.put, List.setIfInBounds_toArray, List.set_cons_zero, List.set_cons_succ]
        refine qc_take (.bool true) (by rfl) (fun W hW => ?_) ?_
        · (try dsimp only at hW)
          go_simp
        try simp only [List.getElem_toArray, List.getElem_cons_succ, List.getElem_cons_zero, Act.put, List.setIfInBounds_toArray, List.set_cons_zero, List.set_cons_succ]
        refine qc_take (.bool true) (by rfl) (fun W hW => ?_) ?_
        · (try dsimp only at hW)
          go_simp
        try simp only [List.getElem_toArray, List.getElem_cons_succ, List.getElem_cons_zero, Act.put, List.setIfInBounds_toArray, List.set_cons_zero, List.set_cons_succ]
        refine qc_take (.int .i64 a) (by rfl) (fun W hW => ?_) ?_
        · (try dsimp only at hW)
          go_simp
        try simp only [List.getElem_toArray, List.getElem_cons_succ, List.getElem_cons_zero, Act.put, List.setIfInBounds_toArray, List.set_cons_zero, List.set_cons_succ]
        refine qc_take (.agg #[.int .u64 j1, .int .u64 j2]) (by rfl) (fun W hW => ?_) ?_
        · (try dsimp only at hW)
          have y := Sn.bk_below HR4.out hW (Sn.bk_lt HR4.out)
          have y0 := Sn.bk_c y 0
          have y1 := Sn.bk_c y 1
          simp only [List.getElem?_toArray, List.getElem?_cons_zero, List.getElem?_cons_succ] at y0 y1
          go_simp
        try simp only [List.getElem_toArray, List.getElem_cons_succ, List.getElem_cons_zero, Act.put, List.setIfInBounds_toArray, List.set_cons_zero, List.set_cons_succ]
        refine qc_take (.int .i64 a) (by rfl) (fun W hW => ?_) ?_
        · (try dsimp only at hW)
          go_simp
        try simp only [List.getElem_toArray, List.getElem_cons_succ, List.getElem_cons_zero, Act.put, List.setIfInBounds_toArray, List.set_cons_zero, List.set_cons_succ]
        refine qc_take (.agg #[.int .u64 x1, .int .u64 x2]) (by rfl) (fun W hW => ?_) ?_
        · (try dsimp only at hW)
          have y := Sn.bk_below HR0.out hW (Sn.bk_lt HR0.out)
          have y0 := Sn.bk_c y 0
          have y1 := Sn.bk_c y 1
          simp only [List.getElem?_toArray, List.getElem?_cons_zero, List.getElem?_cons_succ] at y0 y1
          go_simp
        try simp only [List.getElem_toArray, List.getElem_cons_succ, List.getElem_cons_zero, Act.put, List.setIfInBounds_toArray, List.set_cons_zero, List.set_cons_succ]
        refine qc_take (.agg #[.int .u64 p1, .int .u64 p2]) (by rfl) (fun W hW => ?_) ?_
        · (try dsimp only at hW)
          go_simp
          exact (HX.out W).mono fun e w9 h9 => ⟨h9.1, Sn.below_next hW h9.2 hW.size⟩
        try simp only [List.getElem_toArray, List.getElem_cons_succ, List.getElem_cons_zero, Act.put, List.setIfInBounds_toArray, List.set_cons_zero, List.set_cons_succ]
        refine qc_take (.int .u64 p1) (by rfl) (fun W hW => ?_) ?_
        · (try dsimp only at hW)
          go_simp
          simp [sp_fd0, sp_fd1]
        try simp only [List.getElem_toArray, List.getElem_cons_succ, List.getElem_cons_zero, Act.put, List.setIfInBounds_toArray, List.set_cons_zero, List.set_cons_succ]
        refine qc_take (.bool true) (by rfl) (fun W hW => ?_) ?_
        · (try dsimp only at hW)
          go_simp
          exact (C4.out W).mono fun e w9 h9 => ⟨h9.1, Sn.below_next hW h9.2 hW.size⟩
        try simp only [List.getElem_toArray, List.getElem_cons_succ, List.getElem_cons_zero, Act.put, List.setIfInBounds_toArray, List.set_cons_zero, List.set_cons_succ]
        refine qc_take (.bool true) (by rfl) (fun W hW => ?_) ?_
        · (try dsimp only at hW)
          go_simp
        try simp only [List.getElem_toArray, List.getElem_cons_succ, List.getElem_cons_zero, Act.put, List.setIfInBounds_toArray, List.set_cons_zero, List.set_cons_succ]
        refine qc_take (.bool true) (by rfl) (fun W hW => ?_) ?_
        · (try dsimp only at hW)
          go_simp
        try simp only [List.getElem_toArray, List.getElem_cons_succ, List.getElem_cons_zero, Act.put, List.setIfInBounds_toArray, List.set_cons_zero, List.set_cons_succ]
        refine qc_take (.int .i64 a) (by rfl) (fun W hW => ?_) ?_
        · (try dsimp only at hW)
          go_simp
        try simp only [List.getElem_toArray, List.getElem_cons_succ, List.getElem_cons_zero, Act.put, List.setIfInBounds_toArray, List.set_cons_zero, List.set_cons_succ]
        refine qc_take (.agg #[.int .u64 j1, .int .u64 j2]) (by rfl) (fun W hW => ?_) ?_
        · (try dsimp only at hW)
          have y := Sn.bk_below HR4.out hW (Sn.bk_lt HR4.out)
          have y0 := Sn.bk_c y 0
          have y1 := Sn.bk_c y 1
          simp only [List.getElem?_toArray, List.getElem?_cons_zero, List.getElem?_cons_succ] at y0 y1
          go_simp
        try simp only [List.getElem_toArray, List.getElem_cons_succ, List.getElem_cons_zero, Act.put, List.setIfInBounds_toArray, List.set_cons_zero, List.set_cons_succ]
        refine qc_take (.int .i64 a) (by rfl) (fun W hW => ?_) ?_
        · (try dsimp only at hW)
          go_simp
        try simp only [List.getElem_toArray, List.getElem_cons_succ, List.getElem_cons_zero, Act.put, List.setIfInBounds_toArray, List.set_cons_zero, List.set_cons_succ]
        refine qc_take (.agg #[.int .u64 y1, .int .u64 y2]) (by rfl) (fun W hW => ?_) ?_
        · (try dsimp only at hW)
          have y := Sn.bk_below HR1.out hW (Sn.bk_lt HR1.out)
          have y0 := Sn.bk_c y 0
          have y1 := Sn.bk_c y 1
          simp only [List.getElem?_toArray, List.getElem?_cons_zero, List.getElem?_cons_succ] at y0 y1
          go_simp
        try simp only [List.getElem_toArray, List.getElem_cons_succ, List.getElem_cons_zero, Act.put, List.setIfInBounds_toArray, List.set_cons_zero, List.set_cons_succ]
        refine qc_take (.agg #[.int .u64 q1, .int .u64 q2]) (by rfl) (fun W hW => ?_) ?_
        · (try dsimp only at hW)
          go_simp
          exact (HY.out W).mono fun e w9 h9 => ⟨h9.1, Sn.below_next hW h9.2 hW.size⟩
        try simp only [List.getElem_toArray, List.getElem_cons_succ, List.getElem_cons_zero, Act.put, List.setIfInBounds_toArray, List.set_cons_zero, List.set_cons_succ]
        refine qc_take (.int .u64 q2) (by rfl) (fun W hW => ?_) ?_
        · (try dsimp only at hW)
          go_simp
          simp [sp_fd0, sp_fd1]
        try simp only [List.getElem_toArray, List.getElem_cons_succ, List.getElem_cons_zero, Act.put, List.setIfInBounds_toArray, List.set_cons_zero, List.set_cons_succ]
        refine qc_take (.bool true) (by rfl) (fun W hW => ?_) ?_
        · (try dsimp only at hW)
          go_simp
          exact (C5.out W).mono fun e w9 h9 => ⟨h9.1, Sn.below_next hW h9.2 hW.size⟩
        try simp only [List.getElem_toArray, List.getElem_cons_succ, List.getElem_cons_zero, Act.put, List.setIfInBounds_toArray, List.set_cons_zero, List.set_cons_succ]
        refine qc_take (.bool true) (by rfl) (fun W hW => ?_) ?_
        · (try dsimp only at hW)
          go_simp
        try simp only [List.getElem_toArray, List.getElem_cons_succ, List.getElem_cons_zero, Act.put, List.setIfInBounds_toArray, List.set_cons_zero, List.set_cons_succ]
        refine qc_take (.bool true) (by rfl) (fun W hW => ?_) ?_
        · (try dsimp only at hW)
          go_simp
        try simp only [List.getElem_toArray, List.getElem_cons_succ, List.getElem_cons_zero, Act.put, List.setIfInBounds_toArray, List.set_cons_zero, List.set_cons_succ]
        refine wpQuiet_nil ?_
        intro v2 hb
        have hr0 := Sn.bk_below HR0.out hb (Sn.bk_lt HR0.out)
        have hB := Sn.below_next HB.out hb HB.out.size
        clear HB HR0 hb
        have HB := Lib.hid hB
        have HR0 := Lib.hid hr0
        clear hB hr0
        go_wp2_with fail
        go_ret
        exact ⟨rfl, HB.out⟩
    | false =>
      cases ok with
      | false =>
        have hC1 : Sn.has a (x1, x2) n = false := d1
        have hC2 : Sn.has a (y1, y2) n = false := d2
        clear d1 d2
        have C1 : Hid (∀ W : World, Calls Try.prog 13 #[.int .i64 a, Sn.v (x1, x2), .int .u64 n] W fun e w' => e = .returned (.bool false) ∧ Below W.heap.size W w') := Lib.hid (fun W => by
          have h := has_any a (x1, x2) n W
          rw [hC1] at h
          exact h)
        have C2 : Hid (∀ W : World, Calls Try.prog 13 #[.int .i64 a, Sn.v (y1, y2), .int .u64 n] W fun e w' => e = .returned (.bool false) ∧ Below W.heap.size W w') := Lib.hid (fun W => by
          have h := has_any a (y1, y2) n W
          rw [hC2] at h
          exact h)
        have C4 : Hid (∀ W : World, Calls Try.prog 13 #[.int .i64 a, Sn.v (j1, j2), .int .u64 p1] W fun e w' => e = .returned (.bool true) ∧ Below W.heap.size W w') := Lib.hid (fun W => by
          have h := has_any a (j1, j2) p1 W
          rw [f3] at h
          exact h)
        have C5 : Hid (∀ W : World, Calls Try.prog 13 #[.int .i64 a, Sn.v (j1, j2), .int .u64 q2] W fun e w' => e = .returned (.bool true) ∧ Below W.heap.size W w') := Lib.hid (fun W => by
          have h := has_any a (j1, j2) q2 W
          rw [f4] at h
          exact h)
        clear hC1 hC2 f1 f2 f3 f4
        show Calls Try.prog 5 #[.int .i64 a, .agg #[.int .u64 x1, .int .u64 x2], .agg #[.int .u64 y1, .int .u64 y2], .int .u64 n] w _
        go_enter Try.func5, Try.ntmps5
        go_upto_region 1 with (fail)
        have hB : Below w.heap.size w ((w.alloc (.cells #[.int .u64 x1, .int .u64 x2] 24)).alloc (.cells #[.int .u64 y1, .int .u64 y2] 24)) := (((Below.refl _ _).alloc (Nat.le_refl _) _).alloc (by simp) _)
        have hr0 : Sn.Bk ((w.alloc (.cells #[.int .u64 x1, .int .u64 x2] 24)).alloc (.cells #[.int .u64 y1, .int .u64 y2] 24)) (w.heap.size) 24 #[.int .u64 x1, .int .u64 x2] := Sn.bk_old (Sn.bk_new _ _ _) _
        have hr1 : Sn.Bk ((w.alloc (.cells #[.int .u64 x1, .int .u64 x2] 24)).alloc (.cells #[.int .u64 y1, .int .u64 y2] 24)) (w.heap.size + 1) 24 #[.int .u64 y1, .int .u64 y2] := Sn.bk_at (by simp)
        generalize ((w.alloc (.cells #[.int .u64 x1, .int .u64 x2] 24)).alloc (.cells #[.int .u64 y1, .int .u64 y2] 24)) = v at *
        have HB := Lib.hid hB
        have HR0 := Lib.hid hr0
        have HR1 := Lib.hid hr1
        clear hB hr0 hr1
        go_wp2_with fail
        refine (sn_awake v).mono ?_
        rintro e v2 ⟨rfl, hb⟩
        have hr0 := Sn.bk_below HR0.out hb (Sn.bk_lt HR0.out)
        have hr1 := Sn.bk_below HR1.out hb (Sn.bk_lt HR1.out)
        have hB := Sn.below_next HB.out hb HB.out.size
        clear HB HR0 HR1 hb
        have HB := Lib.hid hB
        have HR0 := Lib.hid hr0
        have HR1 := Lib.hid hr1
        clear hB hr0 hr1
        clear v
        rename World => v
        have c0_0 := Sn.bk_c HR0.out 0
        have c0_1 := Sn.bk_c HR0.out 1
        have c1_0 := Sn.bk_c HR1.out 0
        have c1_1 := Sn.bk_c HR1.out 1
        simp only [List.getElem?_toArray, List.getElem?_cons_zero, List.getElem?_cons_succ] at c0_0 c0_1 c1_0 c1_1
        go_wp2_with fail
        clear c0_0 c0_1 c1_0 c1_1
        refine (HM.out v).mono ?_
        rintro e v2 ⟨rfl, hb⟩
        have hr0 := Sn.bk_below HR0.out hb (Sn.bk_lt HR0.out)
        have hr1 := Sn.bk_below HR1.out hb (Sn.bk_lt HR1.out)
        have hB := Sn.below_next HB.out hb HB.out.size
        clear HB HR0 HR1 hb
        have HB := Lib.hid hB
        have HR0 := Lib.hid hr0
        have HR1 := Lib.hid hr1
        clear hB hr0 hr1
        clear v
        rename World => v
        go_upto_region 4 with (fail)
        have hB : Below w.heap.size w (v.alloc (.cells #[.int .u64 m1, .int .u64 m2] 24)) := (HB.out).alloc (by exact HB.out.size) _
        have hr0 : Sn.Bk (v.alloc (.cells #[.int .u64 m1, .int .u64 m2] 24)) (w.heap.size) 24 #[.int .u64 x1, .int .u64 x2] := Sn.bk_old (HR0.out) _
        have hr1 : Sn.Bk (v.alloc (.cells #[.int .u64 m1, .int .u64 m2] 24)) (w.heap.size + 1) 24 #[.int .u64 y1, .int .u64 y2] := Sn.bk_old (HR1.out) _
        have hr2 : Sn.Bk (v.alloc (.cells #[.int .u64 m1, .int .u64 m2] 24)) (v.heap.size) 24 #[.int .u64 m1, .int .u64 m2] := Sn.bk_new _ _ _
        clear HB HR0 HR1
        generalize (v.alloc (.cells #[.int .u64 m1, .int .u64 m2] 24)) = u at *
        generalize v.heap.size = b3 at *
        clear v
        rename World => v
        have HB := Lib.hid hB
        have HR0 := Lib.hid hr0
        have HR1 := Lib.hid hr1
        have HR2 := Lib.hid hr2
        clear hB hr0 hr1 hr2
        have c0_0 := Sn.bk_c HR0.out 0
        have c0_1 := Sn.bk_c HR0.out 1
        have c1_0 := Sn.bk_c HR1.out 0
        have c1_1 := Sn.bk_c HR1.out 1
        simp only [List.getElem?_toArray, List.getElem?_cons_zero, List.getElem?_cons_succ] at c0_0 c0_1 c1_0 c1_1
        go_wp2_with fail
        clear c0_0 c0_1 c1_0 c1_1
        refine (HM2.out v).mono ?_
        rintro e v2 ⟨rfl, hb⟩
        have hr0 := Sn.bk_below HR0.out hb (Sn.bk_lt HR0.out)
        have hr1 := Sn.bk_below HR1.out hb (Sn.bk_lt HR1.out)
        have hr2 := Sn.bk_below HR2.out hb (Sn.bk_lt HR2.out)
        have hB := Sn.below_next HB.out hb HB.out.size
        clear HB HR0 HR1 HR2 hb
        have HB := Lib.hid hB
        have HR0 := Lib.hid hr0
        have HR1 := Lib.hid hr1
        have HR2 := Lib.hid hr2
        clear hB hr0 hr1 hr2
        clear v
        rename World => v
        go_upto_region 5 with (fail)
        have hB : Below w.heap.size w (v.alloc (.cells #[.int .u64 m1, .int .u64 m2] 24)) := (HB.out).alloc (by exact HB.out.size) _
        have hr0 : Sn.Bk (v.alloc (.cells #[.int .u64 m1, .int .u64 m2] 24)) (w.heap.size) 24 #[.int .u64 x1, .int .u64 x2] := Sn.bk_old (HR0.out) _
        have hr1 : Sn.Bk (v.alloc (.cells #[.int .u64 m1, .int .u64 m2] 24)) (w.heap.size + 1) 24 #[.int .u64 y1, .int .u64 y2] := Sn.bk_old (HR1.out) _
        have hr2 : Sn.Bk (v.alloc (.cells #[.int .u64 m1, .int .u64 m2] 24)) (b3) 24 #[.int .u64 m1, .int .u64 m2] := Sn.bk_old (HR2.out) _
        have hr3 : Sn.Bk (v.alloc (.cells #[.int .u64 m1, .int .u64 m2] 24)) (v.heap.size) 24 #[.int .u64 m1, .int .u64 m2] := Sn.bk_new _ _ _
        clear HB HR0 HR1 HR2
        generalize (v.alloc (.cells #[.int .u64 m1, .int .u64 m2] 24)) = u at *
        generalize v.heap.size = b4 at *
        clear v
        rename World => v
        have HB := Lib.hid hB
        have HR0 := Lib.hid hr0
        have HR1 := Lib.hid hr1
        have HR2 := Lib.hid hr2
        have HR3 := Lib.hid hr3
        clear hB hr0 hr1 hr2 hr3
        have c0_0 := Sn.bk_c HR0.out 0
        have c0_1 := Sn.bk_c HR0.out 1
        have c1_0 := Sn.bk_c HR1.out 0
        have c1_1 := Sn.bk_c HR1.out 1
        simp only [List.getElem?_toArray, List.getElem?_cons_zero, List.getElem?_cons_succ] at c0_0 c0_1 c1_0 c1_1
        go_wp2_with fail
        clear c0_0 c0_1 c1_0 c1_1
        refine (HJ.out v).mono ?_
        rintro e v2 ⟨rfl, hb⟩
        have hr0 := Sn.bk_below HR0.out hb (Sn.bk_lt HR0.out)
        have hr1 := Sn.bk_below HR1.out hb (Sn.bk_lt HR1.out)
        have hr2 := Sn.bk_below HR2.out hb (Sn.bk_lt HR2.out)
        have hr3 := Sn.bk_below HR3.out hb (Sn.bk_lt HR3.out)
        have hB := Sn.below_next HB.out hb HB.out.size
        clear HB HR0 HR1 HR2 HR3 hb
        have HB := Lib.hid hB
        have HR0 := Lib.hid hr0
        have HR1 := Lib.hid hr1
        have HR2 := Lib.hid hr2
        have HR3 := Lib.hid hr3
        clear hB hr0 hr1 hr2 hr3
        clear v
        rename World => v
        go_upto_region 6 with (fail)
        have hB : Below w.heap.size w (v.alloc (.cells #[.int .u64 j1, .int .u64 j2] 24)) := (HB.out).alloc (by exact HB.out.size) _
        have hr0 : Sn.Bk (v.alloc (.cells #[.int .u64 j1, .int .u64 j2] 24)) (w.heap.size) 24 #[.int .u64 x1, .int .u64 x2] := Sn.bk_old (HR0.out) _
        have hr1 : Sn.Bk (v.alloc (.cells #[.int .u64 j1, .int .u64 j2] 24)) (w.heap.size + 1) 24 #[.int .u64 y1, .int .u64 y2] := Sn.bk_old (HR1.out) _
        have hr2 : Sn.Bk (v.alloc (.cells #[.int .u64 j1, .int .u64 j2] 24)) (b3) 24 #[.int .u64 m1, .int .u64 m2] := Sn.bk_old (HR2.out) _
        have hr3 : Sn.Bk (v.alloc (.cells #[.int .u64 j1, .int .u64 j2] 24)) (b4) 24 #[.int .u64 m1, .int .u64 m2] := Sn.bk_old (HR3.out) _
        have hr4 : Sn.Bk (v.alloc (.cells #[.int .u64 j1, .int .u64 j2] 24)) (v.heap.size) 24 #[.int .u64 j1, .int .u64 j2] := Sn.bk_new _ _ _
        clear HB HR0 HR1 HR2 HR3
        generalize (v.alloc (.cells #[.int .u64 j1, .int .u64 j2] 24)) = u at *
        generalize v.heap.size = b5 at *
        clear v
        rename World => v
        have HB := Lib.hid hB
        have HR0 := Lib.hid hr0
        have HR1 := Lib.hid hr1
        have HR2 := Lib.hid hr2
        have HR3 := Lib.hid hr3
        have HR4 := Lib.hid hr4
        clear hB hr0 hr1 hr2 hr3 hr4
        refine qc_all (fun W => Below v.heap.size v W) (by kernel_rfl) (by kernel_rfl) (Below.refl _ _).drew ?_
        refine qc_take (.int .i64 a) (by rfl) (fun W hW => ?_) ?_
        · (try dsimp only at hW)
          go_simp
        try simp only [List.getElem_toArray, List.getElem_cons_succ, List.getElem_cons_zero, Act.put, List.setIfInBounds_toArray, List.set_cons_zero, List.set_cons_succ]
        refine qc_take (.agg #[.int .u64 x1, .int .u64 x2]) (by rfl) (fun W hW => ?_) ?_
        · (try dsimp only at hW)
          have y := Sn.bk_below HR0.out hW (Sn.bk_lt HR0.out)
          have y0 := Sn.bk_c y 0
          have y1 := Sn.bk_c y 1
          simp only [List.getElem?_toArray, List.getElem?_cons_zero, List.getElem?_cons_succ] at y0 y1
          go_simp
        try simp only [List.getElem_toArray, List.getElem_cons_succ, List.getElem_cons_zero, Act.put, List.setIfInBounds_toArray, List.set_cons_zero, List.set_cons_succ]
        refine qc_take (.int .u64 n) (by rfl) (fun W hW => ?_) ?_
        · (try dsimp only at hW)
          go_simp
        try simp only [List.getElem_toArray, List.getElem_cons_succ, List.getElem_cons_zero, Act.put, List.setIfInBounds_toArray, List.set_cons_zero, List.set_cons_succ]
        refine qc_take (.bool false) (by rfl) (fun W hW => ?_) ?_
        · (try dsimp only at hW)
          go_simp
          exact (C1.out W).mono fun e w9 h9 => ⟨h9.1, Sn.below_next hW h9.2 hW.size⟩
        try simp only [List.getElem_toArray, List.getElem_cons_succ, List.getElem_cons_zero, Act.put, List.setIfInBounds_toArray, List.set_cons_zero, List.set_cons_succ]
        refine qc_take (.int .i64 a) (by rfl) (fun W hW => ?_) ?_
        · (try dsimp only at hW)
          go_simp
        try simp only [List.getElem_toArray, List.getElem_cons_succ, List.getElem_cons_zero, Act.put, List.setIfInBounds_toArray, List.set_cons_zero, List.set_cons_succ]
        refine qc_take (.agg #[.int .u64 y1, .int .u64 y2]) (by rfl) (fun W hW => ?_) ?_
        · (try dsimp only at hW)
          have y := Sn.bk_below HR1.out hW (Sn.bk_lt HR1.out)
          have y0 := Sn.bk_c y 0
          have y1 := Sn.bk_c y 1
          simp only [List.getElem?_toArray, List.getElem?_cons_zero, List.getElem?_cons_succ] at y0 y1
          go_simp
        try simp only [List.getElem_toArray, List.getElem_cons_succ, List.getElem_cons_zero, Act.put, List.setIfInBounds_toArray, List.set_cons_zero, List.set_cons_succ]
        refine qc_take (.int .u64 n) (by rfl) (fun W hW => ?_) ?_
        · (try dsimp only at hW)
          go_simp
        try simp only [List.getElem_toArray, List.getElem_cons_succ, List.getElem_cons_zero, Act.put, List.setIfInBounds_toArray, List.set_cons_zero, List.set_cons_succ]
        refine qc_take (.bool false) (by rfl) (fun W hW => ?_) ?_
        · (try dsimp only at hW)
          go_simp
          exact (C2.out W).mono fun e w9 h9 => ⟨h9.1, Sn.below_next hW h9.2 hW.size⟩
        try simp only [List.getElem_toArray, List.getElem_cons_succ, List.getElem_cons_zero, Act.put, List.setIfInBounds_toArray, List.set_cons_zero, List.set_cons_succ]
        refine qc_take (.bool false) (by rfl) (fun W hW => ?_) ?_
        · (try dsimp only at hW)
          go_simp
        try simp only [List.getElem_toArray, List.getElem_cons_succ, List.getElem_cons_zero, Act.put, List.setIfInBounds_toArray, List.set_cons_zero, List.set_cons_succ]
        refine qc_take (.bool false) (by rfl) (fun W hW => ?_) ?_
        · (try dsimp only at hW)
          go_simp
        try simp only [List.getElem_toArray, List.getElem_cons_succ, List.getElem_cons_zero, Act.put, List.setIfInBounds_toArray, List.set_cons_zero, List.set_cons_succ]
        refine wpQuiet_nil ?_
        intro v2 hb
        have hr0 := Sn.bk_below HR0.out hb (Sn.bk_lt HR0.out)
        have hr1 := Sn.bk_below HR1.out hb (Sn.bk_lt HR1.out)
        have hr2 := Sn.bk_below HR2.out hb (Sn.bk_lt HR2.out)
        have hr3 := Sn.bk_below HR3.out hb (Sn.bk_lt HR3.out)
        have hr4 := Sn.bk_below HR4.out hb (Sn.bk_lt HR4.out)
        have hB := Sn.below_next HB.out hb HB.out.size
        clear HB HR0 HR1 HR2 HR3 HR4 hb
        have HB := Lib.hid hB
        have HR0 := Lib.hid hr0
        have HR1 := Lib.hid hr1
        have HR2 := Lib.hid hr2
        have HR3 := Lib.hid hr3
        have HR4 := Lib.hid hr4
        clear hB hr0 hr1 hr2 hr3 hr4
        clear v
        rename World => v
        go_wp2_with fail
        refine qc_all (fun W => Below v.heap.size v W) (by kernel_rfl) (by kernel_rfl) (Below.refl _ _).drew ?_
        refine qc_take (.bool false) (by rfl) (fun W hW => ?_) ?_
        · (try dsimp only at hW)
          go_simp
        try simp only [List.getElem_toArray, List.getElem_cons_succ, List.getElem_cons_zero, Act.put, List.setIfInBounds_toArray, List.set_cons_zero, List.set_cons_succ]
        refine qc_take (.bool false) (by rfl) (fun W hW => ?_) ?_
        · (try dsimp only at hW)
          go_simp
        try simp only [List.getElem_toArray, List.getElem_cons_succ, List.getElem_cons_zero, Act.put, List.setIfInBounds_toArray, List.set_cons_zero, List.set_cons_succ]
        refine qc_take (.bool false) (by rfl) (fun W hW => ?_) ?_
        · (try dsimp only at hW)
          go_simp
        try simp only [List.getElem_toArray, List.getElem_cons_succ, List.getElem_cons_zero, Act.put, List.setIfInBounds_toArray, List.set_cons_zero, List.set_cons_succ]
        refine qc_take (.bool false) (by rfl) (fun W hW => ?_) ?_
        · (try dsimp only at hW)
          go_simp
        try simp only [List.getElem_toArray, List.getElem_cons_succ, List.getElem_cons_zero, Act.put, List.setIfInBounds_toArray, List.set_cons_zero, List.set_cons_succ]
        refine qc_take (.agg #[.int .u64 m1, .int .u64 m2]) (by rfl) (fun W hW => ?_) ?_
        · (try dsimp only at hW)
          have y := Sn.bk_below HR2.out hW (Sn.bk_lt HR2.out)
          have y0 := Sn.bk_c y 0
          have y1 := Sn.bk_c y 1
          simp only [List.getElem?_toArray, List.getElem?_cons_zero, List.getElem?_cons_succ] at y0 y1
          go_simp
        try simp only [List.getElem_toArray, List.getElem_cons_succ, List.getElem_cons_zero, Act.put, List.setIfInBounds_toArray, List.set_cons_zero, List.set_cons_succ]
        refine qc_take (.agg #[.int .u64 m1, .int .u64 m2]) (by rfl) (fun W hW => ?_) ?_
        · (try dsimp only at hW)
          have y := Sn.bk_below HR3.out hW (Sn.bk_lt HR3.out)
          have y0 := Sn.bk_c y 0
          have y1 := Sn.bk_c y 1
          simp only [List.getElem?_toArray, List.getElem?_cons_zero, List.getElem?_cons_succ] at y0 y1
          go_simp
        try simp only [List.getElem_toArray, List.getElem_cons_succ, List.getElem_cons_zero, Act.put, List.setIfInBounds_toArray, List.set_cons_zero, List.set_cons_succ]
        refine qc_take (.bool false) (by rfl) (fun W hW => ?_) ?_
        · (try dsimp only at hW)
          go_simp
        try simp only [List.getElem_toArray, List.getElem_cons_succ, List.getElem_cons_zero, Act.put, List.setIfInBounds_toArray, List.set_cons_zero, List.set_cons_succ]
        refine qc_take (.bool false) (by rfl) (fun W hW => ?_) ?_
        · (try dsimp only at hW)
          go_simp
        try simp only [List.getElem_toArray, List.getElem_cons_succ, List.getElem_cons_zero, Act.put, List.setIfInBounds_toArray, List.set_cons_zero, List.set_cons_succ]
        refine qc_take (.bool false) (by rfl) (fun W hW => ?_) ?_
        · (try dsimp only at hW)
          go_simp
        try simp only [List.getElem_toArray, List.getElem_cons_succ, List.getElem_cons_zero, Act.put, List.setIfInBounds_toArray, List.set_cons_zero, List.set_cons_succ]
        refine qc_take (.agg #[.int .u64 j1, .int .u64 j2]) (by rfl) (fun W hW => ?_) ?_
        · (try dsimp only at hW)
          have y := Sn.bk_below HR4.out hW (Sn.bk_lt HR4.out)
          have y0 := Sn.bk_c y 0
          have y1 := Sn.bk_c y 1
          simp only [List.getElem?_toArray, List.getElem?_cons_zero, List.getElem?_cons_succ] at y0 y1
          go_simp
        try simp only [List.getElem_toArray, List.getElem_cons_succ, List.getElem_cons_zero, Act.put, List.setIfInBounds_toArray, List.set_cons_zero, List.set_cons_succ]
        refine qc_take (.int .i64 a) (by rfl) (fun W hW => ?_) ?_
        · (try dsimp only at hW)
          go_simp
        try simp only [List.getElem_toArray, List.getElem_cons_succ, List.getElem_cons_zero, Act.put, List.setIfInBounds_toArray, List.set_cons_zero, List.set_cons_succ]
        refine qc_take (.agg #[.int .u64 y1, .int .u64 y2]) (by rfl) (fun W hW => ?_) ?_
        · (try dsimp only at hW)
          have y := Sn.bk_below HR1.out hW (Sn.bk_lt HR1.out)
          have y0 := Sn.bk_c y 0
          have y1 := Sn.bk_c y 1
          simp only [List.getElem?_toArray, List.getElem?_cons_zero, List.getElem?_cons_succ] at y0 y1
          go_simp
        try simp only [List.getElem_toArray, List.getElem_cons_succ, List.getElem_cons_zero, Act.put, List.setIfInBounds_toArray, List.set_cons_zero, List.set_cons_succ]
        refine qc_take (.agg #[.int .u64 x1, .int .u64 x2]) (by rfl) (fun W hW => ?_) ?_
        · (try dsimp only at hW)
          have y := Sn.bk_below HR0.out hW (Sn.bk_lt HR0.out)
          have y0 := Sn.bk_c y 0
          have y1 := Sn.bk_c y 1
          simp only [List.getElem?_toArray, List.getElem?_cons_zero, List.getElem?_cons_succ] at y0 y1
          go_simp
        try simp only [List.getElem_toArray, List.getElem_cons_succ, List.getElem_cons_zero, Act.put, List.setIfInBounds_toArray, List.set_cons_zero, List.set_cons_succ]
        refine qc_take (.agg #[.int .u64 j1, .int .u64 j2]) (by rfl) (fun W hW => ?_) ?_
        · (try dsimp only at hW)
          go_simp
          exact (HJ2.out W).mono fun e w9 h9 => ⟨h9.1, Sn.below_next hW h9.2 hW.size⟩
        try simp only [List.getElem_toArray, List.getElem_cons_succ, List.getElem_cons_zero, Act.put, List.setIfInBounds_toArray, List.set_cons_zero, List.set_cons_succ]
        refine qc_take (.bool false) (by rfl) (fun W hW => ?_) ?_
        · (try dsimp only at hW)
          go_simp
        try simp only [List.getElem_toArray, List.getElem_cons_succ, List.getElem_cons_zero, Act.put, List.setIfInBounds_toArray, List.set_cons_zero, List.set_cons_succ]
        refine qc_take (.bool false) (by rfl) (fun W hW => ?_) ?_
        · (try dsimp only at hW)
          go_simp
        try simp only [List.getElem_toArray, List.getElem_cons_succ, List.getElem_cons_zero, Act.put, List.setIfInBounds_toArray, List.set_cons_zero, List.set_cons_succ]
        refine qc_take (.bool false) (by rfl) (fun W hW => ?_) ?_
        · (try dsimp only at hW)
          go_simp
        try simp only [List.getElem_toArray, List.getElem_cons_succ, List.getElem_cons_zero, Act.put, List.setIfInBounds_toArray, List.set_cons_zero, List.set_cons_succ]
        refine qc_take (.bool false) (by rfl) (fun W hW => ?_) ?_
        · (try dsimp only at hW)
          go_simp
        try simp only [List.getElem_toArray, List.getElem_cons_succ, List.getElem_cons_zero, Act.put, List.setIfInBounds_toArray, List.set_cons_zero, List.set_cons_succ]
        refine qc_take (.bool false) (by rfl) (fun W hW => ?_) ?_
        · (try dsimp only at hW)
          go_simp
        try simp only [List.getElem_toArray, List.getElem_cons_succ, List.getElem_cons_zero, Act.put, List.setIfInBounds_toArray, List.set_cons_zero, List.set_cons_succ]
        refine qc_skip (by rfl) ?_
        try simp only [List.getElem_toArray, List.getElem_cons_succ, List.getElem_cons_zero, Act.put, List.setIfInBounds_toArray, List.set_cons_zero, List.set_cons_succ]
        refine qc_take (.bool false) (by rfl) (fun W hW => ?_) ?_
        · (try dsimp only at hW)
          go_simp
        try simp only [List.getElem_toArray, List.getElem_cons_succ, List.getElem_cons_zero, Act.put, List.setIfInBounds_toArray, List.set_cons_zero, List.set_cons_succ]
        refine qc_take (.bool false) (by rfl) (fun W hW => ?_) ?_
        · (try dsimp only at hW)
          go_simp
        try simp only [List.getElem_toArray, List.getElem_cons_succ, List.getElem_cons_zero, Act.put, List.setIfInBounds_toArray, List.set_cons_zero, List.set_cons_succ]
        refine qc_take (.bool false) (by rfl) (fun W hW => ?_) ?_
        · (try dsimp only at hW)
          go_simp
        try simp only [List.getElem_toArray, List.getElem_cons_succ, List.getElem_cons_zero, Act.put, List.setIfInBounds_toArray, List.set_cons_zero, List.set_cons_succ]
        refine qc_skip (by rfl) ?_
        try simp only [List.getElem_toArray, List.getElem_cons_succ, List.getElem_cons_zero, Act.put, List.setIfInBounds_toArray, List.set_cons_zero, List.set_cons_succ]
        refine qc_skip (by rfl) ?_
        try simp only [List.getElem_toArray, List.getElem_cons_succ, List.getElem_cons_zero, Act.put, List.setIfInBounds_toArray, List.set_cons_zero, List.set_cons_succ]
        refine qc_skip (by rfl) ?_
        try simp only [List.getElem_toArray, List.getElem_cons_succ, List.getElem_cons_zero, Act.put, List.setIfInBounds_toArray, List.set_cons_zero, List.set_cons_succ]
        refine qc_skip (by rfl) ?_
        try simp only [List.getElem_toArray, List.getElem_cons_succ, List.getElem_cons_zero, Act.put, List.setIfInBounds_toArray, List.set_cons_zero, List.set_cons_succ]
        refine qc_take (.bool false) (by rfl) (fun W hW => ?_) ?_
        · (try dsimp only at hW)
          go_simp
        try simp only [List.getElem_toArray, List.getElem_cons_succ, List.getElem_cons_zero, Act.put, List.setIfInBounds_toArray, List.set_cons_zero, List.set_cons_succ]
        refine qc_take (.bool false) (by rfl) (fun W hW => ?_) ?_
        · (try dsimp only at hW)
          go_simp
        try simp only [List.getElem_toArray, List.getElem_cons_succ, List.getElem_cons_zero, Act.put, List.setIfInBounds_toArray, List.set_cons_zero, List.set_cons_succ]
        refine qc_take (.bool false) (by rfl) (fun W hW => ?_) ?_
        · (try dsimp only at hW)
          go_simp
        try simp only [List.getElem_toArray, List.getElem_cons_succ, List.getElem_cons_zero, Act.put, List.setIfInBounds_toArray, List.set_cons_zero, List.set_cons_succ]
        refine wpQuiet_nil ?_
        intro v2 hb
        have hr0 := Sn.bk_below HR0.out hb (Sn.bk_lt HR0.out)
        have hr1 := Sn.bk_below HR1.out hb (Sn.bk_lt HR1.out)
        have hr2 := Sn.bk_below HR2.out hb (Sn.bk_lt HR2.out)
        have hr3 := Sn.bk_below HR3.out hb (Sn.bk_lt HR3.out)
        have hr4 := Sn.bk_below HR4.out hb (Sn.bk_lt HR4.out)
        have hB := Sn.below_next HB.out hb HB.out.size
        clear HB HR0 HR1 HR2 HR3 HR4 hb
        have HB := Lib.hid hB
        have HR0 := Lib.hid hr0
        have HR1 := Lib.hid hr1
        have HR2 := Lib.hid hr2
        have HR3 := Lib.hid hr3
        have HR4 := Lib.hid hr4
        clear hB hr0 hr1 hr2 hr3 hr4
        clear v
        rename World => v
        go_wp2_with fail
        refine qc_all (fun W => Below v.heap.size v W) (by kernel_rfl) (by kernel_rfl) (Below.refl _ _).drew ?_
        refine qc_take (.bool false) (by rfl) (fun W hW => ?_) ?_
        · (try dsimp only at hW)
          go_simp
        try simp only [List.getElem_toArray, List.getElem_cons_succ, List.getElem_cons_zero, Act.put, List.setIfInBounds_toArray, List.set_cons_zero, List.set_cons_succ]
        refine qc_take (.bool true) (by rfl) (fun W hW => ?_) ?_
        · (try dsimp only at hW)
          go_simp
        try simp only [List.getElem_toArray, List.getElem_cons_succ, List.getElem_cons_zero, Act.put, List.setIfInBounds_toArray, List.set_cons_zero, List.set_cons_succ]
        refine qc_take (.bool true) (by rfl) (fun W hW => ?_) ?_
        · (try dsimp only at hW)
          go_simp
        try simp only [List.getElem_toArray, List.getElem_cons_succ, List.getElem_cons_zero, Act.put, List.setIfInBounds_toArray, List.set_cons_zero, List.set_cons_succ]
        refine qc_take (.bool false) (by rfl) (fun W hW => ?_) ?_
        · (try dsimp only at hW)
          go_simp
        try simp only [List.getElem_toArray, List.getElem_cons_succ, List.getElem_cons_zero, Act.put, List.setIfInBounds_toArray, List.set_cons_zero, List.set_cons_succ]
        refine qc_take (.bool true) (by rfl) (fun W hW => ?_) ?_
        · (try dsimp only at hW)
          go_simp
        try simp only [List.getElem_toArray, List.getElem_cons_succ, List.getElem_cons_zero, Act.put, List.setIfInBounds_toArray, List.set_cons_zero, List.set_cons_succ]
        refine qc_take (.bool true) (by rfl) (fun W hW => ?_) ?_
        · (try dsimp only at hW)
          go_simp
        try simp only [List.getElem_toArray, List.getElem_cons_succ, List.getElem_cons_zero, Act.put, List.setIfInBounds_toArray, List.set_cons_zero, List.set_cons_succ]
        refine qc_take (.bool true) (by rfl) (fun W hW => ?_) ?_
        · (try dsimp only at hW)
          go_simp
        try simp only [List.getElem_toArray, List.getElem_cons_succ, List.getElem_cons_zero, Act.put, List.setIfInBounds_toArray, List.set_cons_zero, List.set_cons_succ]
        refine qc_skip (by rfl) ?_
        try simp only [List.getElem_toArray, List.getElem_cons_succ, List.getElem_cons_zero, Act.put, List.setIfInBounds_toArray, List.set_cons_zero, List.set_cons_succ]
        refine qc_skip (by rfl) ?_
        try simp only [List.getElem_toArray, List.getElem_cons_succ, List.getElem_cons_zero, Act.put, List.setIfInBounds_toArray, List.set_cons_zero, List.set_cons_succ]
        refine qc_skip (by rfl) ?_
        try simp only [List.getElem_toArray, List.getElem_cons_succ, List.getElem_cons_zero, Act.put, List.setIfInBounds_toArray, List.set_cons_zero, List.set_cons_succ]
        refine qc_skip (by rfl) ?_
        try simp only [List.getElem_toArray, List.getElem_cons_succ, List.getElem_cons_zero, Act.put, List.setIfInBounds_toArray, List.set_cons_zero, List.set_cons_succ]
        refine qc_take (.bool true) (by rfl) (fun W hW => ?_) ?_
        · (try dsimp only at hW)
          go_simp
        try simp only [List.getElem_toArray, List.getElem_cons_succ, List.getElem_cons_zero, Act.put, List.setIfInBounds_toArray, List.set_cons_zero, List.set_cons_succ]
        refine qc_take (.bool true) (by rfl) (fun W hW => ?_) ?_
        · (try dsimp only at hW)
          go_simp
        try simp only [List.getElem_toArray, List.getElem_cons_succ, List.getElem_cons_zero, Act.put, List.setIfInBounds_toArray, List.set_cons_zero, List.set_cons_succ]
        refine qc_take (.int .i64 a) (by rfl) (fun W hW => ?_) ?_
        · (try dsimp only at hW)
          go_simp
        try simp only [List.getElem_toArray, List.getElem_cons_succ, List.getElem_cons_zero, Act.put, List.setIfInBounds_toArray, List.set_cons_zero, List.set_cons_succ]
        refine qc_take (.agg #[.int .u64 j1, .int .u64 j2]) (by rfl) (fun W hW => ?_) ?_
        · (try dsimp only at hW)
          have y := Sn.bk_below HR4.out hW (Sn.bk_lt HR4.out)
          have y0 := Sn.bk_c y 0
          have y1 := Sn.bk_c y 1
          simp only [List.getElem?_toArray, List.getElem?_cons_zero, List.getElem?_cons_succ] at y0 y1
          go_simp
        try simp only [List.getElem_toArray, List.getElem_cons_succ, List.getElem_cons_zero, Act.put, List.setIfInBounds_toArray, List.set_cons_zero, List.set_cons_succ]
        refine qc_take (.int .i64 a) (by rfl) (fun W hW => ?_) ?_
        · (try dsimp only at hW)
          go_simp
        try simp only [List.getElem_toArray, List.getElem_cons_succ, List.getElem_cons_zero, Act.put, List.setIfInBounds_toArray, List.set_cons_zero, List.set_cons_succ]
        refine qc_take (.agg #[.int .u64 x1, .int .u64 x2]) (by rfl) (fun W hW => ?_) ?_
        · (try dsimp only at hW)
          have y := Sn.bk_below HR0.out hW (Sn.bk_lt HR0.out)
          have y0 := Sn.bk_c y 0
          have y1 := Sn.bk_c y 1
          simp only [List.getElem?_toArray, List.getElem?_cons_zero, List.getElem?_cons_succ] at y0 y1
          go_simp
        try simp only [List.getElem_toArray, List.getElem_cons_succ, List.getElem_cons_zero, Act.put, List.setIfInBounds_toArray, List.set_cons_zero, List.set_cons_succ]
        refine qc_take (.agg #[.int .u64 p1, .int .u64 p2]) (by rfl) (fun W hW => ?_) ?_
        · (try dsimp only at hW)
          go_simp
          exact (HX.out W).mono fun e w9 h9 => ⟨h9.1, Sn.below_next hW h9.2 hW.size⟩
        try simp only [List.getElem_toArray, List.getElem_cons_succ, List.getElem_cons_zero, Act.put, List.setIfInBounds_toArray, List.set_cons_zero, List.set_cons_succ]
        refine qc_take (.int .u64 p1) (by rfl) (fun W hW => ?_) ?_
        · (try dsimp only at hW)
          go_simp
          simp [sp_fd0, sp_fd1]
        try simp only [List.getElem_toArray, List.getElem_cons_succ, List.getElem_cons_zero, Act.put, List.setIfInBounds_toArray, List.set_cons_zero, List.set_cons_succ]
        refine qc_take (.bool true) (by rfl) (fun W hW => ?_) ?_
        · (try dsimp only at hW)
          go_simp
          exact (C4.out W).mono fun e w9 h9 => ⟨h9.1, Sn.below_next hW h9.2 hW.size⟩
        try simp only [List.getElem_toArray, List.getElem_cons_succ, List.getElem_cons_zero, Act.put, List.setIfInBounds_toArray, List.set_cons_zero, List.set_cons_succ]
        refine qc_take (.bool true) (by rfl) (fun W hW => ?_) ?_
        · (try dsimp only at hW)
          go_simp
        try simp only [List.getElem_toArray, List.getElem_cons_succ, List.getElem_cons_zero, Act.put, List.setIfInBounds_toArray, List.set_cons_zero, List.set_cons_succ]
        refine qc_take (.bool true) (by rfl) (fun W hW => ?_) ?_
        · (try dsimp only at hW)
          go_simp
        try simp only [List.getElem_toArray, List.getElem_cons_succ, List.getElem_cons_zero, Act.put, List.setIfInBounds_toArray, List.set_cons_zero, List.set_cons_succ]
        refine qc_take (.int .i64 a) (by rfl) (fun W hW => ?_) ?_
        · (try dsimp only at hW)
          go_simp
        try simp only [List.getElem_toArray, List.getElem_cons_succ, List.getElem_cons_zero, Act.put, List.setIfInBounds_toArray, List.set_cons_zero, List.set_cons_succ]
        refine qc_take (.agg #[.int .u64 j1, .int .u64 j2]) (by rfl) (fun W hW => ?_) ?_
        · (try dsimp only at hW)
          have y := Sn.bk_below HR4.out hW (Sn.bk_lt HR4.out)
          have y0 := Sn.bk_c y 0
          have y1 := Sn.bk_c y 1
          simp only [List.getElem?_toArray, List.getElem?_cons_zero, List.getElem?_cons_succ] at y0 y1
          go_simp
        try simp only [List.getElem_toArray, List.getElem_cons_succ, List.getElem_cons_zero, Act.put, List.setIfInBounds_toArray, List.set_cons_zero, List.set_cons_succ]
        refine qc_take (.int .i64 a) (by rfl) (fun W hW => ?_) ?_
        · (try dsimp only at hW)
          go_simp
        try simp only [List.getElem_toArray, List.getElem_cons_succ, List.getElem_cons_zero, Act.put, List.setIfInBounds_toArray, List.set_cons_zero, List.set_cons_succ]
        refine qc_take (.agg #[.int .u64 y1, .int .u64 y2]) (by rfl) (fun W hW => ?_) ?_
        · (try dsimp only at hW)
          have y := Sn.bk_below HR1.out hW (Sn.bk_lt HR1.out)
          have y0 := Sn.bk_c y 0
          have y1 := Sn.bk_c y 1
          simp only [List.getElem?_toArray, List.getElem?_cons_zero, List.getElem?_cons_succ] at y0 y1
          go_simp
        try simp only [List.getElem_toArray, List.getElem_cons_succ, List.getElem_cons_zero, Act.put, List.setIfInBounds_toArray, List.set_cons_zero, List.set_cons_succ]
        refine qc_take (.agg #[.int .u64 q1, .int .u64 q2]) (by rfl) (fun W hW => ?_) ?_
        · (try dsimp only at hW)
          go_simp
          exact (HY.out W).mono fun e w9 h9 => ⟨h9.1, Sn.below_next hW h9.2 hW.size⟩
        try simp only [List.getElem_toArray, List.getElem_cons_succ, List.getElem_cons_zero, Act.put, List.setIfInBounds_toArray, List.set_cons_zero, List.set_cons_succ]
        refine qc_take (.int .u64 q2) (by rfl) (fun W hW => ?_) ?_
        · (try dsimp only at hW)
          go_simp
          simp [sp_fd0, sp_fd1]
        try simp only [List.getElem_toArray, List.getElem_cons_succ, List.getElem_cons_zero, Act.put, List.setIfInBounds_toArray, List.set_cons_zero, List.set_cons_succ]
        refine qc_take (.bool true) (by rfl) (fun W hW => ?_) ?_
        · (try dsimp only at hW)
          go_simp
          exact (C5.out W).mono fun e w9 h9 => ⟨h9.1, Sn.below_next hW h9.2 hW.size⟩
        try simp only [List.getElem_toArray, List.getElem_cons_succ, List.getElem_cons_zero, Act.put, List.setIfInBounds_toArray, List.set_cons_zero, List.set_cons_succ]
        refine qc_take (.bool true) (by rfl) (fun W hW => ?_) ?_
        · (try dsimp only at hW)
          go_simp
        try simp only [List.getElem_toArray, List.getElem_cons_succ, List.getElem_cons_zero, Act.put, List.setIfInBounds_toArray, List.set_cons_zero, List.set_cons_succ]
        refine qc_take (.bool true) (by rfl) (fun W hW => ?_) ?_
        · (try dsimp only at hW)
          go_simp
        try simp only [List.getElem_toArray, List.getElem_cons_succ, List.getElem_cons_zero, Act.put, List.setIfInBounds_toArray, List.set_cons_zero, List.set_cons_succ]
        refine wpQuiet_nil ?_
        intro v2 hb
        have hr0 := Sn.bk_below HR0.out hb (Sn.bk_lt HR0.out)
        have hB := Sn.below_next HB.out hb HB.out.size
        clear HB HR0 hb
        have HB := Lib.hid hB
        have HR0 := Lib.hid hr0
        clear hB hr0
        go_wp2_with fail
        go_ret
        exact ⟨rfl, HB.out⟩
      | true =>
        have d4 : Sn.has a (m1, m2) n = false := by rw [d1, d2] at f1; simpa using f1.symm
        have hC1 : Sn.has a (x1, x2) n = false := d1
        have hC2 : Sn.has a (y1, y2) n = false := d2
        clear d1 d2
        have C1 : Hid (∀ W : World, Calls Try.prog 13 #[.int .i64 a, Sn.v (x1, x2), .int .u64 n] W fun e w' => e = .returned (.bool false) ∧ Below W.heap.size W w') := Lib.hid (fun W => by
          have h := has_any a (x1, x2) n W
          rw [hC1] at h
          exact h)
        have C2 : Hid (∀ W : World, Calls Try.prog 13 #[.int .i64 a, Sn.v (y1, y2), .int .u64 n] W fun e w' => e = .returned (.bool false) ∧ Below W.heap.size W w') := Lib.hid (fun W => by
          have h := has_any a (y1, y2) n W
          rw [hC2] at h
          exact h)
        have C4 : Hid (∀ W : World, Calls Try.prog 13 #[.int .i64 a, Sn.v (j1, j2), .int .u64 p1] W fun e w' => e = .returned (.bool true) ∧ Below W.heap.size W w') := Lib.hid (fun W => by
          have h := has_any a (j1, j2) p1 W
          rw [f3] at h
          exact h)
        have C5 : Hid (∀ W : World, Calls Try.prog 13 #[.int .i64 a, Sn.v (j1, j2), .int .u64 q2] W fun e w' => e = .returned (.bool true) ∧ Below W.heap.size W w') := Lib.hid (fun W => by
          have h := has_any a (j1, j2) q2 W
          rw [f4] at h
          exact h)
        have hC3 : Sn.has a (m1, m2) n = false := by simpa using d4
        clear d4
        have C3 : Hid (∀ W : World, Calls Try.prog 13 #[.int .i64 a, Sn.v (m1, m2), .int .u64 n] W fun e w' => e = .returned (.bool false) ∧ Below W.heap.size W w') := Lib.hid (fun W => by
          have h := has_any a (m1, m2) n W
          rw [hC3] at h
          exact h)
        clear hC3
        clear hC1 hC2 f1 f2 f3 f4
        show Calls Try.prog 5 #[.int .i64 a, .agg #[.int .u64 x1, .int .u64 x2], .agg #[.int .u64 y1, .int .u64 y2], .int .u64 n] w _
        go_enter Try.func5, Try.ntmps5
        go_upto_region 1 with (fail)
        have hB : Below w.heap.size w ((w.alloc (.cells #[.int .u64 x1, .int .u64 x2] 24)).alloc (.cells #[.int .u64 y1, .int .u64 y2] 24)) := (((Below.refl _ _).alloc (Nat.le_refl _) _).alloc (by simp) _)
        have hr0 : Sn.Bk ((w.alloc (.cells #[.int .u64 x1, .int .u64 x2] 24)).alloc (.cells #[.int .u64 y1, .int .u64 y2] 24)) (w.heap.size) 24 #[.int .u64 x1, .int .u64 x2] := Sn.bk_old (Sn.bk_new _ _ _) _
        have hr1 : Sn.Bk ((w.alloc (.cells #[.int .u64 x1, .int .u64 x2] 24)).alloc (.cells #[.int .u64 y1, .int .u64 y2] 24)) (w.heap.size + 1) 24 #[.int .u64 y1, .int .u64 y2] := Sn.bk_at (by simp)
        generalize ((w.alloc (.cells #[.int .u64 x1, .int .u64 x2] 24)).alloc (.cells #[.int .u64 y1, .int .u64 y2] 24)) = v at *
        have HB := Lib.hid hB
        have HR0 := Lib.hid hr0
        have HR1 := Lib.hid hr1
        clear hB hr0 hr1
        go_wp2_with fail
        refine (sn_awake v).mono ?_
        rintro e v2 ⟨rfl, hb⟩
        have hr0 := Sn.bk_below HR0.out hb (Sn.bk_lt HR0.out)
        have hr1 := Sn.bk_below HR1.out hb (Sn.bk_lt HR1.out)
        have hB := Sn.below_next HB.out hb HB.out.size
        clear HB HR0 HR1 hb
        have HB := Lib.hid hB
        have HR0 := Lib.hid hr0
        have HR1 := Lib.hid hr1
        clear hB hr0 hr1
        clear v
        rename World => v
        have c0_0 := Sn.bk_c HR0.out 0
        have c0_1 := Sn.bk_c HR0.out 1
        have c1_0 := Sn.bk_c HR1.out 0
        have c1_1 := Sn.bk_c HR1.out 1
        simp only [List.getElem?_toArray, List.getElem?_cons_zero, List.getElem?_cons_succ] at c0_0 c0_1 c1_0 c1_1
        go_wp2_with fail
        clear c0_0 c0_1 c1_0 c1_1
        refine (HM.out v).mono ?_
        rintro e v2 ⟨rfl, hb⟩
        have hr0 := Sn.bk_below HR0.out hb (Sn.bk_lt HR0.out)
        have hr1 := Sn.bk_below HR1.out hb (Sn.bk_lt HR1.out)
        have hB := Sn.below_next HB.out hb HB.out.size
        clear HB HR0 HR1 hb
        have HB := Lib.hid hB
        have HR0 := Lib.hid hr0
        have HR1 := Lib.hid hr1
        clear hB hr0 hr1
        clear v
        rename World => v
        go_upto_region 4 with (fail)
        have hB : Below w.heap.size w (v.alloc (.cells #[.int .u64 m1, .int .u64 m2] 24)) := (HB.out).alloc (by exact HB.out.size) _
        have hr0 : Sn.Bk (v.alloc (.cells #[.int .u64 m1, .int .u64 m2] 24)) (w.heap.size) 24 #[.int .u64 x1, .int .u64 x2] := Sn.bk_old (HR0.out) _
        have hr1 : Sn.Bk (v.alloc (.cells #[.int .u64 m1, .int .u64 m2] 24)) (w.heap.size + 1) 24 #[.int .u64 y1, .int .u64 y2] := Sn.bk_old (HR1.out) _
        have hr2 : Sn.Bk (v.alloc (.cells #[.int .u64 m1, .int .u64 m2] 24)) (v.heap.size) 24 #[.int .u64 m1, .int .u64 m2] := Sn.bk_new _ _ _
        clear HB HR0 HR1
        generalize (v.alloc (.cells #[.int .u64 m1, .int .u64 m2] 24)) = u at *
        generalize v.heap.size = b3 at *
        clear v
        rename World => v
        have HB := Lib.hid hB
        have HR0 := Lib.hid hr0
        have HR1 := Lib.hid hr1
        have HR2 := Lib.hid hr2
        clear hB hr0 hr1 hr2
        have c0_0 := Sn.bk_c HR0.out 0
        have c0_1 := Sn.bk_c HR0.out 1
        have c1_0 := Sn.bk_c HR1.out 0
        have c1_1 := Sn.bk_c HR1.out 1
        simp only [List.getElem?_toArray, List.getElem?_cons_zero, List.getElem?_cons_succ] at c0_0 c0_1 c1_0 c1_1
        go_wp2_with fail
        clear c0_0 c0_1 c1_0 c1_1
        refine (HM2.out v).mono ?_
        rintro e v2 ⟨rfl, hb⟩
        have hr0 := Sn.bk_below HR0.out hb (Sn.bk_lt HR0.out)
        have hr1 := Sn.bk_below HR1.out hb (Sn.bk_lt HR1.out)
        have hr2 := Sn.bk_below HR2.out hb (Sn.bk_lt HR2.out)
        have hB := Sn.below_next HB.out hb HB.out.size
        clear HB HR0 HR1 HR2 hb
        have HB := Lib.hid hB
        have HR0 := Lib.hid hr0
        have HR1 := Lib.hid hr1
        have HR2 := Lib.hid hr2
        clear hB hr0 hr1 hr2
        clear v
        rename World => v
        go_upto_region 5 with (fail)
        have hB : Below w.heap.size w (v.alloc (.cells #[.int .u64 m1, .int .u64 m2] 24)) := (HB.out).alloc (by exact HB.out.size) _
        have hr0 : Sn.Bk (v.alloc (.cells #[.int .u64 m1, .int .u64 m2] 24)) (w.heap.size) 24 #[.int .u64 x1, .int .u64 x2] := Sn.bk_old (HR0.out) _
        have hr1 : Sn.Bk (v.alloc (.cells #[.int .u64 m1, .int .u64 m2] 24)) (w.heap.size + 1) 24 #[.int .u64 y1, .int .u64 y2] := Sn.bk_old (HR1.out) _
        have hr2 : Sn.Bk (v.alloc (.cells #[.int .u64 m1, .int .u64 m2] 24)) (b3) 24 #[.int .u64 m1, .int .u64 m2] := Sn.bk_old (HR2.out) _
        have hr3 : Sn.Bk (v.alloc (.cells #[.int .u64 m1, .int .u64 m2] 24)) (v.heap.size) 24 #[.int .u64 m1, .int .u64 m2] := Sn.bk_new _ _ _
        clear HB HR0 HR1 HR2
        generalize (v.alloc (.cells #[.int .u64 m1, .int .u64 m2] 24)) = u at *
        generalize v.heap.size = b4 at *
        clear v
        rename World => v
        have HB := Lib.hid hB
        have HR0 := Lib.hid hr0
        have HR1 := Lib.hid hr1
        have HR2 := Lib.hid hr2
        have HR3 := Lib.hid hr3
        clear hB hr0 hr1 hr2 hr3
        have c0_0 := Sn.bk_c HR0.out 0
        have c0_1 := Sn.bk_c HR0.out 1
        have c1_0 := Sn.bk_c HR1.out 0
        have c1_1 := Sn.bk_c HR1.out 1
        simp only [List.getElem?_toArray, List.getElem?_cons_zero, List.getElem?_cons_succ] at c0_0 c0_1 c1_0 c1_1
        go_wp2_with fail
        clear c0_0 c0_1 c1_0 c1_1
        refine (HJ.out v).mono ?_
        rintro e v2 ⟨rfl, hb⟩
        have hr0 := Sn.bk_below HR0.out hb (Sn.bk_lt HR0.out)
        have hr1 := Sn.bk_below HR1.out hb (Sn.bk_lt HR1.out)
        have hr2 := Sn.bk_below HR2.out hb (Sn.bk_lt HR2.out)
        have hr3 := Sn.bk_below HR3.out hb (Sn.bk_lt HR3.out)
        have hB := Sn.below_next HB.out hb HB.out.size
        clear HB HR0 HR1 HR2 HR3 hb
        have HB := Lib.hid hB
        have HR0 := Lib.hid hr0
        have HR1 := Lib.hid hr1
        have HR2 := Lib.hid hr2
        have HR3 := Lib.hid hr3
        clear hB hr0 hr1 hr2 hr3
        clear v
        rename World => v
        go_upto_region 6 with (fail)
        have hB : Below w.heap.size w (v.alloc (.cells #[.int .u64 j1, .int .u64 j2] 24)) := (HB.out).alloc (by exact HB.out.size) _
        have hr0 : Sn.Bk (v.alloc (.cells #[.int .u64 j1, .int .u64 j2] 24)) (w.heap.size) 24 #[.int .u64 x1, .int .u64 x2] := Sn.bk_old (HR0.out) _
        have hr1 : Sn.Bk (v.alloc (.cells #[.int .u64 j1, .int .u64 j2] 24)) (w.heap.size + 1) 24 #[.int .u64 y1, .int .u64 y2] := Sn.bk_old (HR1.out) _
        have hr2 : Sn.Bk (v.alloc (.cells #[.int .u64 j1, .int .u64 j2] 24)) (b3) 24 #[.int .u64 m1, .int .u64 m2] := Sn.bk_old (HR2.out) _
        have hr3 : Sn.Bk (v.alloc (.cells #[.int .u64 j1, .int .u64 j2] 24)) (b4) 24 #[.int .u64 m1, .int .u64 m2] := Sn.bk_old (HR3.out) _
        have hr4 : Sn.Bk (v.alloc (.cells #[.int .u64 j1, .int .u64 j2] 24)) (v.heap.size) 24 #[.int .u64 j1, .int .u64 j2] := Sn.bk_new _ _ _
        clear HB HR0 HR1 HR2 HR3
        generalize (v.alloc (.cells #[.int .u64 j1, .int .u64 j2] 24)) = u at *
        generalize v.heap.size = b5 at *
        clear v
        rename World => v
        have HB := Lib.hid hB
        have HR0 := Lib.hid hr0
        have HR1 := Lib.hid hr1
        have HR2 := Lib.hid hr2
        have HR3 := Lib.hid hr3
        have HR4 := Lib.hid hr4
        clear hB hr0 hr1 hr2 hr3 hr4
        refine qc_all (fun W => Below v.heap.size v W) (by kernel_rfl) (by kernel_rfl) (Below.refl _ _).drew ?_
        refine qc_take (.int .i64 a) (by rfl) (fun W hW => ?_) ?_
        · (try dsimp only at hW)
          go_simp
        try simp only [List.getElem_toArray, List.getElem_cons_succ, List.getElem_cons_zero, Act.put, List.setIfInBounds_toArray, List.set_cons_zero, List.set_cons_succ]
        refine qc_take (.agg #[.int .u64 x1, .int .u64 x2]) (by rfl) (fun W hW => ?_) ?_
        · (try dsimp only at hW)
          have y := Sn.bk_below HR0.out hW (Sn.bk_lt HR0.out)
          have y0 := Sn.bk_c y 0
          have y1 := Sn.bk_c y 1
          simp only [List.getElem?_toArray, List.getElem?_cons_zero, List.getElem?_cons_succ] at y0 y1
          go_simp
        try simp only [List.getElem_toArray, List.getElem_cons_succ, List.getElem_cons_zero, Act.put, List.setIfInBounds_toArray, List.set_cons_zero, List.set_cons_succ]
        refine qc_take (.int .u64 n) (by rfl) (fun W hW => ?_) ?_
        · (try dsimp only at hW)
          go_simp
        try simp only [List.getElem_toArray, List.getElem_cons_succ, List.getElem_cons_zero, Act.put, List.setIfInBounds_toArray, List.set_cons_zero, List.set_cons_succ]
        refine qc_take (.bool false) (by rfl) (fun W hW => ?_) ?_
        · (try dsimp only at hW)
          go_simp
          exact (C1.out W).mono fun e w9 h9 => ⟨h9.1, Sn.below_next hW h9.2 hW.size⟩
        try simp only [List.getElem_toArray, List.getElem_cons_succ, List.getElem_cons_zero, Act.put, List.setIfInBounds_toArray, List.set_cons_zero, List.set_cons_succ]
        refine qc_take (.int .i64 a) (by rfl) (fun W hW => ?_) ?_
        · (try dsimp only at hW)
          go_simp
        try simp only [List.getElem_toArray, List.getElem_cons_succ, List.getElem_cons_zero, Act.put, List.setIfInBounds_toArray, List.set_cons_zero, List.set_cons_succ]
        refine qc_take (.agg #[.int .u64 y1, .int .u64 y2]) (by rfl) (fun W hW => ?_) ?_
        · (try dsimp only at hW)
          have y := Sn.bk_below HR1.out hW (Sn.bk_lt HR1.out)
          have y0 := Sn.bk_c y 0
          have y1 := Sn.bk_c y 1
          simp only [List.getElem?_toArray, List.getElem?_cons_zero, List.getElem?_cons_succ] at y0 y1
          go_simp
        try simp only [List.getElem_toArray, List.getElem_cons_succ, List.getElem_cons_zero, Act.put, List.setIfInBounds_toArray, List.set_cons_zero, List.set_cons_succ]
        refine qc_take (.int .u64 n) (by rfl) (fun W hW => ?_) ?_
        · (try dsimp only at hW)
          go_simp
        try simp only [List.getElem_toArray, List.getElem_cons_succ, List.getElem_cons_zero, Act.put, List.setIfInBounds_toArray, List.set_cons_zero, List.set_cons_succ]
        refine qc_take (.bool false) (by rfl) (fun W hW => ?_) ?_
        · (try dsimp only at hW)
          go_simp
          exact (C2.out W).mono fun e w9 h9 => ⟨h9.1, Sn.below_next hW h9.2 hW.size⟩
        try simp only [List.getElem_toArray, List.getElem_cons_succ, List.getElem_cons_zero, Act.put, List.setIfInBounds_toArray, List.set_cons_zero, List.set_cons_succ]
        refine qc_take (.bool false) (by rfl) (fun W hW => ?_) ?_
        · (try dsimp only at hW)
          go_simp
        try simp only [List.getElem_toArray, List.getElem_cons_succ, List.getElem_cons_zero, Act.put, List.setIfInBounds_toArray, List.set_cons_zero, List.set_cons_succ]
        refine qc_take (.bool false) (by rfl) (fun W hW => ?_) ?_
        · (try dsimp only at hW)
          go_simp
        try simp only [List.getElem_toArray, List.getElem_cons_succ, List.getElem_cons_zero, Act.put, List.setIfInBounds_toArray, List.set_cons_zero, List.set_cons_succ]
        refine wpQuiet_nil ?_
        intro v2 hb
        have hr0 := Sn.bk_below HR0.out hb (Sn.bk_lt HR0.out)
        have hr1 := Sn.bk_below HR1.out hb (Sn.bk_lt HR1.out)
        have hr2 := Sn.bk_below HR2.out hb (Sn.bk_lt HR2.out)
        have hr3 := Sn.bk_below HR3.out hb (Sn.bk_lt HR3.out)
        have hr4 := Sn.bk_below HR4.out hb (Sn.bk_lt HR4.out)
        have hB := Sn.below_next HB.out hb HB.out.size
        clear HB HR0 HR1 HR2 HR3 HR4 hb
        have HB := Lib.hid hB
        have HR0 := Lib.hid hr0
        have HR1 := Lib.hid hr1
        have HR2 := Lib.hid hr2
        have HR3 := Lib.hid hr3
        have HR4 := Lib.hid hr4
        clear hB hr0 hr1 hr2 hr3 hr4
        clear v
        rename World => v
        go_wp2_with fail
        refine qc_all (fun W => Below v.heap.size v W) (by kernel_rfl) (by kernel_rfl) (Below.refl _ _).drew ?_
        refine qc_take (.bool true) (by rfl) (fun W hW => ?_) ?_
        · (try dsimp only at hW)
          go_simp
        try simp only [List.getElem_toArray, List.getElem_cons_succ, List.getElem_cons_zero, Act.put, List.setIfInBounds_toArray, List.set_cons_zero, List.set_cons_succ]
        refine qc_take (.bool true) (by rfl) (fun W hW => ?_) ?_
        · (try dsimp only at hW)
          go_simp
        try simp only [List.getElem_toArray, List.getElem_cons_succ, List.getElem_cons_zero, Act.put, List.setIfInBounds_toArray, List.set_cons_zero, List.set_cons_succ]
        refine qc_take (.bool false) (by rfl) (fun W hW => ?_) ?_
        · (try dsimp only at hW)
          go_simp
        try simp only [List.getElem_toArray, List.getElem_cons_succ, List.getElem_cons_zero, Act.put, List.setIfInBounds_toArray, List.set_cons_zero, List.set_cons_succ]
        refine qc_take (.bool false) (by rfl) (fun W hW => ?_) ?_
        · (try dsimp only at hW)
          go_simp
        try simp only [List.getElem_toArray, List.getElem_cons_succ, List.getElem_cons_zero, Act.put, List.setIfInBounds_toArray, List.set_cons_zero, List.set_cons_succ]
        refine qc_take (.agg #[.int .u64 m1, .int .u64 m2]) (by rfl) (fun W hW => ?_) ?_
        · (try dsimp only at hW)
          have y := Sn.bk_below HR2.out hW (Sn.bk_lt HR2.out)
          have y0 := Sn.bk_c y 0
          have y1 := Sn.bk_c y 1
          simp only [List.getElem?_toArray, List.getElem?_cons_zero, List.getElem?_cons_succ] at y0 y1
          go_simp
        try simp only [List.getElem_toArray, List.getElem_cons_succ, List.getElem_cons_zero, Act.put, List.setIfInBounds_toArray, List.set_cons_zero, List.set_cons_succ]
        refine qc_take (.agg #[.int .u64 m1, .int .u64 m2]) (by rfl) (fun W hW => ?_) ?_
        · (try dsimp only at hW)
          have y := Sn.bk_below HR3.out hW (Sn.bk_lt HR3.out)
          have y0 := Sn.bk_c y 0
          have y1 := Sn.bk_c y 1
          simp only [List.getElem?_toArray, List.getElem?_cons_zero, List.getElem?_cons_succ] at y0 y1
          go_simp
        try simp only [List.getElem_toArray, List.getElem_cons_succ, List.getElem_cons_zero, Act.put, List.setIfInBounds_toArray, List.set_cons_zero, List.set_cons_succ]
        refine qc_take (.bool false) (by rfl) (fun W hW => ?_) ?_
        · (try dsimp only at hW)
          go_simp
        try simp only [List.getElem_toArray, List.getElem_cons_succ, List.getElem_cons_zero, Act.put, List.setIfInBounds_toArray, List.set_cons_zero, List.set_cons_succ]
        refine qc_take (.bool false) (by rfl) (fun W hW => ?_) ?_
        · (try dsimp only at hW)
          go_simp
        try simp only [List.getElem_toArray, List.getElem_cons_succ, List.getElem_cons_zero, Act.put, List.setIfInBounds_toArray, List.set_cons_zero, List.set_cons_succ]
        refine qc_take (.bool false) (by rfl) (fun W hW => ?_) ?_
        · (try dsimp only at hW)
          go_simp
        try simp only [List.getElem_toArray, List.getElem_cons_succ, List.getElem_cons_zero, Act.put, List.setIfInBounds_toArray, List.set_cons_zero, List.set_cons_succ]
        refine qc_take (.agg #[.int .u64 j1, .int .u64 j2]) (by rfl) (fun W hW => ?_) ?_
        · (try dsimp only at hW)
          have y := Sn.bk_below HR4.out hW (Sn.bk_lt HR4.out)
          have y0 := Sn.bk_c y 0
          have y1 := Sn.bk_c y 1
          simp only [List.getElem?_toArray, List.getElem?_cons_zero, List.getElem?_cons_succ] at y0 y1
          go_simp
        try simp only [List.getElem_toArray, List.getElem_cons_succ, List.getElem_cons_zero, Act.put, List.setIfInBounds_toArray, List.set_cons_zero, List.set_cons_succ]
        refine qc_take (.int .i64 a) (by rfl) (fun W hW => ?_) ?_
        · (try dsimp only at hW)
          go_simp
        try simp only [List.getElem_toArray, List.getElem_cons_succ, List.getElem_cons_zero, Act.put, List.setIfInBounds_toArray, List.set_cons_zero, List.set_cons_succ]
        refine qc_take (.agg #[.int .u64 y1, .int .u64 y2]) (by rfl) (fun W hW => ?_) ?_
        · (try dsimp only at hW)
          have y := Sn.bk_below HR1.out hW (Sn.bk_lt HR1.out)
          have y0 := Sn.bk_c y 0
          have y1 := Sn.bk_c y 1
          simp only [List.getElem?_toArray, List.getElem?_cons_zero, List.getElem?_cons_succ] at y0 y1
          go_simp
        try simp only [List.getElem_toArray, List.getElem_cons_succ, List.getElem_cons_zero, Act.put, List.setIfInBounds_toArray, List.set_cons_zero, List.set_cons_succ]
        refine qc_take (.agg #[.int .u64 x1, .int .u64 x2]) (by rfl) (fun W hW => ?_) ?_
        · (try dsimp only at hW)
          have y := Sn.bk_below HR0.out hW (Sn.bk_lt HR0.out)
          have y0 := Sn.bk_c y 0
          have y1 := Sn.bk_c y 1
          simp only [List.getElem?_toArray, List.getElem?_cons_zero, List.getElem?_cons_succ] at y0 y1
          go_simp
        try simp only [List.getElem_toArray, List.getElem_cons_succ, List.getElem_cons_zero, Act.put, List.setIfInBounds_toArray, List.set_cons_zero, List.set_cons_succ]
        refine qc_take (.agg #[.int .u64 j1, .int .u64 j2]) (by rfl) (fun W hW => ?_) ?_
        · (try dsimp only at hW)
          go_simp
          exact (HJ2.out W).mono fun e w9 h9 => ⟨h9.1, Sn.below_next hW h9.2 hW.size⟩
        try simp only [List.getElem_toArray, List.getElem_cons_succ, List.getElem_cons_zero, Act.put, List.setIfInBounds_toArray, List.set_cons_zero, List.set_cons_succ]
        refine qc_take (.bool false) (by rfl) (fun W hW => ?_) ?_
        · (try dsimp only at hW)
          go_simp
        try simp only [List.getElem_toArray, List.getElem_cons_succ, List.getElem_cons_zero, Act.put, List.setIfInBounds_toArray, List.set_cons_zero, List.set_cons_succ]
        refine qc_take (.bool false) (by rfl) (fun W hW => ?_) ?_
        · (try dsimp only at hW)
          go_simp
        try simp only [List.getElem_toArray, List.getElem_cons_succ, List.getElem_cons_zero, Act.put, List.setIfInBounds_toArray, List.set_cons_zero, List.set_cons_succ]
        refine qc_take (.bool false) (by rfl) (fun W hW => ?_) ?_
        · (try dsimp only at hW)
          go_simp
        try simp only [List.getElem_toArray, List.getElem_cons_succ, List.getElem_cons_zero, Act.put, List.setIfInBounds_toArray, List.set_cons_zero, List.set_cons_succ]
        refine qc_take (.bool false) (by rfl) (fun W hW => ?_) ?_
        · (try dsimp only at hW)
          go_simp
        try simp only [List.getElem_toArray, List.getElem_cons_succ, List.getElem_cons_zero, Act.put, List.setIfInBounds_toArray, List.set_cons_zero, List.set_cons_succ]
        refine qc_take (.bool false) (by rfl) (fun W hW => ?_) ?_
        · (try dsimp only at hW)
          go_simp
        try simp only [List.getElem_toArray, List.getElem_cons_succ, List.getElem_cons_zero, Act.put, List.setIfInBounds_toArray, List.set_cons_zero, List.set_cons_succ]
        refine qc_skip (by rfl) ?_
        try simp only [List.getElem_toArray, List.getElem_cons_succ, List.getElem_cons_zero, Act.put, List.setIfInBounds_toArray, List.set_cons_zero, List.set_cons_succ]
        refine qc_take (.bool false) (by rfl) (fun W hW => ?_) ?_
        · (try dsimp only at hW)
          go_simp
        try simp only [List.getElem_toArray, List.getElem_cons_succ, List.getElem_cons_zero, Act.put, List.setIfInBounds_toArray, List.set_cons_zero, List.set_cons_succ]
        refine qc_take (.bool true) (by rfl) (fun W hW => ?_) ?_
        · (try dsimp only at hW)
          go_simp
        try simp only [List.getElem_toArray, List.getElem_cons_succ, List.getElem_cons_zero, Act.put, List.setIfInBounds_toArray, List.set_cons_zero, List.set_cons_succ]
        refine qc_take (.bool true) (by rfl) (fun W hW => ?_) ?_
        · (try dsimp only at hW)
          go_simp
        try simp only [List.getElem_toArray, List.getElem_cons_succ, List.getElem_cons_zero, Act.put, List.setIfInBounds_toArray, List.set_cons_zero, List.set_cons_succ]
        refine qc_take (.int .i64 a) (by rfl) (fun W hW => ?_) ?_
        · (try dsimp only at hW)
          go_simp
        try simp only [List.getElem_toArray, List.getElem_cons_succ, List.getElem_cons_zero, Act.put, List.setIfInBounds_toArray, List.set_cons_zero, List.set_cons_succ]
        refine qc_take (.agg #[.int .u64 m1, .int .u64 m2]) (by rfl) (fun W hW => ?_) ?_
        · (try dsimp only at hW)
          have y := Sn.bk_below HR2.out hW (Sn.bk_lt HR2.out)
          have y0 := Sn.bk_c y 0
          have y1 := Sn.bk_c y 1
          simp only [List.getElem?_toArray, List.getElem?_cons_zero, List.getElem?_cons_succ] at y0 y1
          go_simp
        try simp only [List.getElem_toArray, List.getElem_cons_succ, List.getElem_cons_zero, Act.put, List.setIfInBounds_toArray, List.set_cons_zero, List.set_cons_succ]
        refine qc_take (.int .u64 n) (by rfl) (fun W hW => ?_) ?_
        · (try dsimp only at hW)
          go_simp
        try simp only [List.getElem_toArray, List.getElem_cons_succ, List.getElem_cons_zero, Act.put, List.setIfInBounds_toArray, List.set_cons_zero, List.set_cons_succ]
        refine qc_take (.bool false) (by rfl) (fun W hW => ?_) ?_
        · (try dsimp only at hW)
          go_simp
          exact (C3.out W).mono fun e w9 h9 => ⟨h9.1, Sn.below_next hW h9.2 hW.size⟩
        try simp only [List.getElem_toArray, List.getElem_cons_succ, List.getElem_cons_zero, Act.put, List.setIfInBounds_toArray, List.set_cons_zero, List.set_cons_succ]
        refine qc_take (.bool false) (by rfl) (fun W hW => ?_) ?_
        · (try dsimp only at hW)
          go_simp
        try simp only [List.getElem_toArray, List.getElem_cons_succ, List.getElem_cons_zero, Act.put, List.setIfInBounds_toArray, List.set_cons_zero, List.set_cons_succ]
        refine qc_take (.bool false) (by rfl) (fun W hW => ?_) ?_
        · (try dsimp only at hW)
          go_simp
        try simp only [List.getElem_toArray, List.getElem_cons_succ, List.getElem_cons_zero, Act.put, List.setIfInBounds_toArray, List.set_cons_zero, List.set_cons_succ]
        refine qc_take (.bool false) (by rfl) (fun W hW => ?_) ?_
        · (try dsimp only at hW)
          go_simp
        try simp only [List.getElem_toArray, List.getElem_cons_succ, List.getElem_cons_zero, Act.put, List.setIfInBounds_toArray, List.set_cons_zero, List.set_cons_succ]
        refine wpQuiet_nil ?_
        intro v2 hb
        have hr0 := Sn.bk_below HR0.out hb (Sn.bk_lt HR0.out)
        have hr1 := Sn.bk_below HR1.out hb (Sn.bk_lt HR1.out)
        have hr2 := Sn.bk_below HR2.out hb (Sn.bk_lt HR2.out)
        have hr3 := Sn.bk_below HR3.out hb (Sn.bk_lt HR3.out)
        have hr4 := Sn.bk_below HR4.out hb (Sn.bk_lt HR4.out)
        have hB := Sn.below_next HB.out hb HB.out.size
        clear HB HR0 HR1 HR2 HR3 HR4 hb
        have HB := Lib.hid hB
        have HR0 := Lib.hid hr0
        have HR1 := Lib.hid hr1
        have HR2 := Lib.hid hr2
        have HR3 := Lib.hid hr3
        have HR4 := Lib.hid hr4
        clear hB hr0 hr1 hr2 hr3 hr4
        clear v
        rename World => v
        go_wp2_with fail
        refine qc_all (fun W => Below v.heap.size v W) (by kernel_rfl) (by kernel_rfl) (Below.refl _ _).drew ?_
        refine qc_take (.bool false) (by rfl) (fun W hW => ?_) ?_
        · (try dsimp only at hW)
          go_simp
        try simp only [List.getElem_toArray, List.getElem_cons_succ, List.getElem_cons_zero, Act.put, List.setIfInBounds_toArray, List.set_cons_zero, List.set_cons_succ]
        refine qc_take (.bool true) (by rfl) (fun W hW => ?_) ?_
        · (try dsimp only at hW)
          go_simp
        try simp only [List.getElem_toArray, List.getElem_cons_succ, List.getElem_cons_zero, Act.put, List.setIfInBounds_toArray, List.set_cons_zero, List.set_cons_succ]
        refine qc_take (.bool true) (by rfl) (fun W hW => ?_) ?_
        · (try dsimp only at hW)
          go_simp
        try simp only [List.getElem_toArray, List.getElem_cons_succ, List.getElem_cons_zero, Act.put, List.setIfInBounds_toArray, List.set_cons_zero, List.set_cons_succ]
        refine qc_take (.bool false) (by rfl) (fun W hW => ?_) ?_
        · (try dsimp only at hW)
          go_simp
        try simp only [List.getElem_toArray, List.getElem_cons_succ, List.getElem_cons_zero, Act.put, List.setIfInBounds_toArray, List.set_cons_zero, List.set_cons_succ]
        refine qc_take (.bool true) (by rfl) (fun W hW => ?_) ?_
        · (try dsimp only at hW)
          go_simp
        try simp only [List.getElem_toArray, List.getElem_cons_succ, List.getElem_cons_zero, Act.put, List.setIfInBounds_toArray, List.set_cons_zero, List.set_cons_succ]
        refine qc_take (.bool true) (by rfl) (fun W hW => ?_) ?_
        · (try dsimp only at hW)
          go_simp
        try simp only [List.getElem_toArray, List.getElem_cons_succ, List.getElem_cons_zero, Act.put, List.setIfInBounds_toArray, List.set_cons_zero, List.set_cons_succ]
        refine qc_take (.bool true) (by rfl) (fun W hW => ?_) ?_
        · (try dsimp only at hW)
          go_simp
        try simp only [List.getElem_toArray, List.getElem_cons_succ, List.getElem_cons_zero, Act.put, List.setIfInBounds_toArray, List.set_cons_zero, List.set_cons_succ]
        refine qc_skip (by rfl) ?_
        try simp only [List.getElem_toArray, List.getElem_cons_succ, List.getElem_cons_zero, Act.put, List.setIfInBounds_toArray, List.set_cons_zero, List.set_cons_succ]
        refine qc_skip (by rfl) ?_
        try simp only [List.getElem_toArray, List.getElem_cons_succ, List.getElem_cons_zero, Act.put, List.setIfInBounds_toArray, List.set_cons_zero, List.set_cons_succ]
        refine qc_skip (by rfl) ?_
        try simp only [List.getElem_toArray, List.getElem_cons_succ, List.getElem_cons_zero, Act.put, List.setIfInBounds_toArray, List.set_cons_zero, List.set_cons_succ]
        refine qc_skip (by rfl) ?_
        try simp only [List.getElem_toArray, List.getElem_cons_succ, List.getElem_cons_zero, Act.put, List.setIfInBounds_toArray, List.set_cons_zero, List.set_cons_succ]
        refine qc_take (.bool true) (by rfl) (fun W hW => ?_) ?_
        · (try dsimp only at hW)
          go_simp
        try simp only [List.getElem_toArray, List.getElem_cons_succ, List.getElem_cons_zero, Act.put, List.setIfInBounds_toArray, List.set_cons_zero, List.set_cons_succ]
        refine qc_take (.bool true) (by rfl) (fun W hW => ?_) ?_
        · (try dsimp only at hW)
          go_simp
        try simp only [List.getElem_toArray, List.getElem_cons_succ, List.getElem_cons_zero, Act.put, List.setIfInBounds_toArray, List.set_cons_zero, List.set_cons_succ]
        refine qc_take (.int .i64 a) (by rfl) (fun W hW => ?_) ?_
        · (try dsimp only at hW)
          go_simp
        try simp only [List.getElem_toArray, List.getElem_cons_succ, List.getElem_cons_zero, Act.put, List.setIfInBounds_toArray, List.set_cons_zero, List.set_cons_succ]
        refine qc_take (.agg #[.int .u64 j1, .int .u64 j2]) (by rfl) (fun W hW => ?_) ?_
        · (try dsimp only at hW)
          have y := Sn.bk_below HR4.out hW (Sn.bk_lt HR4.out)
          have y0 := Sn.bk_c y 0
          have y1 := Sn.bk_c y 1
          simp only [List.getElem?_toArray, List.getElem?_cons_zero, List.getElem?_cons_succ] at y0 y1
          go_simp
        try simp only [List.getElem_toArray, List.getElem_cons_succ, List.getElem_cons_zero, Act.put, List.setIfInBounds_toArray, List.set_cons_zero, List.set_cons_succ]
        refine qc_take (.int .i64 a) (by rfl) (fun W hW => ?_) ?_
        · (try dsimp only at hW)
          go_simp
        try simp only [List.getElem_toArray, List.getElem_cons_succ, List.getElem_cons_zero, Act.put, List.setIfInBounds_toArray, List.set_cons_zero, List.set_cons_succ]
        refine qc_take (.agg #[.int .u64 x1, .int .u64 x2]) (by rfl) (fun W hW => ?_) ?_
        · (try dsimp only at hW)
          have y := Sn.bk_below HR0.out hW (Sn.bk_lt HR0.out)
          have y0 := Sn.bk_c y 0
          have y1 := Sn.bk_c y 1
          simp only [List.getElem?_toArray, List.getElem?_cons_zero, List.getElem?_cons_succ] at y0 y1
          go_simp
        try simp only [List.getElem_toArray, List.getElem_cons_succ, List.getElem_cons_zero, Act.put, List.setIfInBounds_toArray, List.set_cons_zero, List.set_cons_succ]
        refine qc_take (.agg #[.int .u64 p1, .int .u64 p2]) (by rfl) (fun W hW => ?_) ?_
        · (try dsimp only at hW)
          go_simp
          exact (HX.out W).mono fun e w9 h9 => ⟨h9.1, Sn.below_next hW h9.2 hW.size⟩
        try simp only [List.getElem_toArray, List.getElem_cons_succ, List.getElem_cons_zero, Act.put, List.setIfInBounds_toArray, List.set_cons_zero, List.set_cons_succ]
        refine qc_take (.int .u64 p1) (by rfl) (fun W hW => ?_) ?_
        · (try dsimp only at hW)
          go_simp
          simp [sp_fd0, sp_fd1]
        try simp only [List.getElem_toArray, List.getElem_cons_succ, List.getElem_cons_zero, Act.put, List.setIfInBounds_toArray, List.set_cons_zero, List.set_cons_succ]
        refine qc_take (.bool true) (by rfl) (fun W hW => ?_) ?_
        · (try dsimp only at hW)
          go_simp
          exact (C4.out W).mono fun e w9 h9 => ⟨h9.1, Sn.below_next hW h9.2 hW.size⟩
        try simp only [List.getElem_toArray, List.getElem_cons_succ, List.getElem_cons_zero, Act.put, List.setIfInBounds_toArray, List.set_cons_zero, List.set_cons_succ]
        refine qc_take (.bool true) (by rfl) (fun W hW => ?_) ?_
        · (try dsimp only at hW)
          go_simp
        try simp only [List.getElem_toArray, List.getElem_cons_succ, List.getElem_cons_zero, Act.put, List.setIfInBounds_toArray, List.set_cons_zero, List.set_cons_succ]
        refine qc_take (.bool true) (by rfl) (fun W hW => ?_) ?_
        · (try dsimp only at hW)
          go_simp
        try simp only [List.getElem_toArray, List.getElem_cons_succ, List.getElem_cons_zero, Act.put, List.setIfInBounds_toArray, List.set_cons_zero, List.set_cons_succ]
        refine qc_take (.int .i64 a) (by rfl) (fun W hW => ?_) ?_
        · (try dsimp only at hW)
          go_simp
        try simp only [List.getElem_toArray, List.getElem_cons_succ, List.getElem_cons_zero, Act.put, List.setIfInBounds_toArray, List.set_cons_zero, List.set_cons_succ]
        refine qc_take (.agg #[.int .u64 j1, .int .u64 j2]) (by rfl) (fun W hW => ?_) ?_
        · (try dsimp only at hW)
          have y := Sn.bk_below HR4.out hW (Sn.bk_lt HR4.out)
          have y0 := Sn.bk_c y 0
          have y1 := Sn.bk_c y 1
          simp only [List.getElem?_toArray, List.getElem?_cons_zero, List.getElem?_cons_succ] at y0 y1
          go_simp
        try simp only [List.getElem_toArray, List.getElem_cons_succ, List.getElem_cons_zero, Act.put, List.setIfInBounds_toArray, List.set_cons_zero, List.set_cons_succ]
        refine qc_take (.int .i64 a) (by rfl) (fun W hW => ?_) ?_
        · (try dsimp only at hW)
          go_simp
        try simp only [List.getElem_toArray, List.getElem_cons_succ, List.getElem_cons_zero, Act.put, List.setIfInBounds_toArray, List.set_cons_zero, List.set_cons_succ]
        refine qc_take (.agg #[.int .u64 y1, .int .u64 y2]) (by rfl) (fun W hW => ?_) ?_
        · (try dsimp only at hW)
          have y := Sn.bk_below HR1.out hW (Sn.bk_lt HR1.out)
          have y0 := Sn.bk_c y 0
          have y1 := Sn.bk_c y 1
          simp only [List.getElem?_toArray, List.getElem?_cons_zero, List.getElem?_cons_succ] at y0 y1
          go_simp
        try simp only [List.getElem_toArray, List.getElem_cons_succ, List.getElem_cons_zero, Act.put, List.setIfInBounds_toArray, List.set_cons_zero, List.set_cons_succ]
        refine qc_take (.agg #[.int .u64 q1, .int .u64 q2]) (by rfl) (fun W hW => ?_) ?_
        · (try dsimp only at hW)
          go_simp
          exact (HY.out W).mono fun e w9 h9 => ⟨h9.1, Sn.below_next hW h9.2 hW.size⟩
        try simp only [List.getElem_toArray, List.getElem_cons_succ, List.getElem_cons_zero, Act.put, List.setIfInBounds_toArray, List.set_cons_zero, List.set_cons_succ]
        refine qc_take (.int .u64 q2) (by rfl) (fun W hW => ?_) ?_
        · (try dsimp only at hW)
          go_simp
          simp [sp_fd0, sp_fd1]
        try simp only [List.getElem_toArray, List.getElem_cons_succ, List.getElem_cons_zero, Act.put, List.setIfInBounds_toArray, List.set_cons_zero, List.set_cons_succ]
        refine qc_take (.bool true) (by rfl) (fun W hW => ?_) ?_
        · (try dsimp only at hW)
          go_simp
          exact (C5.out W).mono fun e w9 h9 => ⟨h9.1, Sn.below_next hW h9.2 hW.size⟩
        try simp only [List.getElem_toArray, List.getElem_cons_succ, List.getElem_cons_zero, Act.put, List.setIfInBounds_toArray, List.set_cons_zero, List.set_cons_succ]
        refine qc_take (.bool true) (by rfl) (fun W hW => ?_) ?_
        · (try dsimp only at hW)
          go_simp
        try simp only [List.getElem_toArray, List.getElem_cons_succ, List.getElem_cons_zero, Act.put, List.setIfInBounds_toArray, List.set_cons_zero, List.set_cons_succ]
        refine qc_take (.bool true) (by rfl) (fun W hW => ?_) ?_
        · (try dsimp only at hW)
          go_simp
        try simp only [List.getElem_toArray, List.getElem_cons_succ, List.getElem_cons_zero, Act.put, List.setIfInBounds_toArray, List.set_cons_zero, List.set_cons_succ]
        refine wpQuiet_nil ?_
        intro v2 hb
        have hr0 := Sn.bk_below HR0.out hb (Sn.bk_lt HR0.out)
        have hB := Sn.below_next HB.out hb HB.out.size
        clear HB HR0 hb
        have HB := Lib.hid hB
        have HR0 := Lib.hid hr0
        clear hB hr0
        go_wp2_with fail
        go_ret
        exact ⟨rfl, HB.out⟩


end Go.Proofs.Ytbjckcjfambpoaa
