/-
  Layer 11: what the laws say, plainly; the walks of SpanHolds and SpanWhole.
-/
import Derived.Test.YtbjckcjfambpoaaSnL0
namespace Go.Proofs.Ytbjckcjfambpoaa
set_option linter.unusedSimpArgs false
set_option linter.unusedVariables false
open Go.RowKit Go.Maps
set_option maxRecDepth 100000

namespace Sn
theorem holds (op a : Int) (x y : S) (n m : Int) (hx : 0 ≤ x.1) (hy : 0 ≤ y.1) (h1 : has a x n = true) (h2 : has a y m = true) :
    has a (apply op a x y) (Wd.app op a n m) = true ∧ (apply op a x y).1 ≤ (apply op a x y).2 ∧ (apply op a x y).2 ≤ Wd.msk a ∧ apply op a (Wd.cut a n, Wd.cut a n) (Wd.cut a m, Wd.cut a m) = (Wd.app op a n m, Wd.app op a n m) := by
  have hr := rt_ok a x hx
  have hs := rt_ok a y hy
  have ho := ap_ok op a _ _ hr hs
  rw [has_iff] at h1 h2
  have hin := in_ap op a _ _ hr hs _ _ h1 h2
  rw [Wd.app_cut] at hin
  have cn : Ok a (Wd.cut a n, Wd.cut a n) := ⟨Wd.cut_lo _ _, Int.le_refl _, Wd.cut_hi_le _ _⟩
  have cm : Ok a (Wd.cut a m, Wd.cut a m) := ⟨Wd.cut_lo _ _, Int.le_refl _, Wd.cut_hi_le _ _⟩
  refine ⟨?_, ho.2.1, ho.2.2, ?_⟩
  · rw [has_iff, show rt a (apply op a x y) = apply op a x y from rt_of a _ ho, cut_w a _ (app_nn _ _ _ _) (Wd.app_le _ _ _ _)]
    exact hin
  · show ap op a (rt a (Wd.cut a n, Wd.cut a n)) (rt a (Wd.cut a m, Wd.cut a m)) = _
    rw [rt_of a _ cn, rt_of a _ cm]
    unfold ap
    rw [if_pos ⟨rfl, rfl⟩]
    dsimp only
    rw [Wd.app_cut]
theorem whole_has (a n : Int) : has a (0, Wd.msk a) n = true := by
  have h := rt_of a (0, Wd.msk a) (whole_ok a)
  rw [has_iff, h]
  exact ⟨Wd.cut_lo _ _, Wd.cut_hi_le _ _⟩
theorem apply_whole (op a : Int) (x y : S) (h : rt a x = whole a) : apply op a x y = apply op a (0, Wd.msk a) y ∧ apply op a y x = apply op a y (0, Wd.msk a) := by
  have e := rt_of a (0, Wd.msk a) (whole_ok a)
  unfold apply
  rw [h, e]
  exact ⟨rfl, rfl⟩
theorem join_whole (a : Int) (x y : S) (hy : 0 ≤ y.1) (h : rt a x = whole a) : join a x y = (0, Wd.msk a) := by
  have ho := rt_ok a y hy
  unfold Ok at ho
  unfold join
  rw [h]
  unfold whole
  exact Prod.ext (by dsimp only; omega) (by dsimp only; omega)
end Sn

set_option maxHeartbeats 12800000 in
theorem holds_walk (op a : Int) (x y : Sn.S) (n m : Int) (hx : Sn.U x) (hy : Sn.U y) (w : World) :
    Calls Try.prog 4 #[.int .i64 op, .int .i64 a, Sn.v x, Sn.v y, .int .u64 n, .int .u64 m] w fun e w' => e = .returned (.bool true) ∧ Below w.heap.size w w' := by
  obtain ⟨x1, x2⟩ := x
  obtain ⟨y1, y2⟩ := y
  by_cases hC1 : Sn.has a (x1, x2) n = true
  · by_cases hC2 : Sn.has a (y1, y2) m = true
    · obtain ⟨g3, g1, g2, g4⟩ := Sn.holds op a (x1, x2) (y1, y2) n m hx.1.1 hy.1.1 hC1 hC2
      have C1 : Hid (∀ W : World, Calls Try.prog 13 #[.int .i64 a, Sn.v (x1, x2), .int .u64 n] W fun e w' => e = .returned (.bool true) ∧ Below W.heap.size W w') := Lib.hid (fun W => by
        have h := has_any a (x1, x2) n W
        rw [show Sn.has a (x1, x2) n = true by simpa using hC1] at h
        exact h)
      have C2 : Hid (∀ W : World, Calls Try.prog 13 #[.int .i64 a, Sn.v (y1, y2), .int .u64 m] W fun e w' => e = .returned (.bool true) ∧ Below W.heap.size W w') := Lib.hid (fun W => by
        have h := has_any a (y1, y2) m W
        rw [show Sn.has a (y1, y2) m = true by simpa using hC2] at h
        exact h)
      clear hC1 hC2
      have HS := Lib.hid (fun W => apply_any op a (x1, x2) (y1, y2) hx hy W)
      have HA := Lib.hid (fun W => app_any op a n m W)
      have HP := Lib.hid (fun W => apply_any op a (Wd.cut a n, Wd.cut a n) (Wd.cut a m, Wd.cut a m) ⟨⟨Wd.cut_lo _ _, Wd.cut_hi _ _⟩, ⟨Wd.cut_lo _ _, Wd.cut_hi _ _⟩⟩ ⟨⟨Wd.cut_lo _ _, Wd.cut_hi _ _⟩, ⟨Wd.cut_lo _ _, Wd.cut_hi _ _⟩⟩ W)
      have HM := Lib.hid (fun W => cut_any a n W)
      have HN := Lib.hid (fun W => cut_any a m W)
      simp only [g4] at HP
      clear g4 hx hy
      generalize Wd.app op a n m = t at *
      generalize Wd.cut a n = c1 at *
      generalize Wd.cut a m = c2 at *
      generalize Sn.apply op a (x1, x2) (y1, y2) = r at *
      obtain ⟨s1, s2⟩ := r
      dsimp only at g1 g2
      have C3 : Hid (∀ W : World, Calls Try.prog 13 #[.int .i64 a, Sn.v (s1, s2), .int .u64 t] W fun e w' => e = .returned (.bool true) ∧ Below W.heap.size W w') := Lib.hid (fun W => by
        have h := has_any a (s1, s2) t W
        rw [g3] at h
        exact h)
      clear g3
      show Calls Try.prog 4 #[.int .i64 op, .int .i64 a, .agg #[.int .u64 x1, .int .u64 x2], .agg #[.int .u64 y1, .int .u64 y2], .int .u64 n, .int .u64 m] w _
      go_enter Try.func4, Try.ntmps4
      go_upto_region 1 with (fail)
      have hB : Below w.heap.size w ((w.alloc (.cells #[.int .u64 x1, .int .u64 x2] 24)).alloc (.cells #[.int .u64 y1, .int .u64 y2] 24)) := (((Below.refl _ _).alloc (Nat.le_refl _) _).alloc (by simp) _)
      have hr0 : Sn.Bk ((w.alloc (.cells #[.int .u64 x1, .int .u64 x2] 24)).alloc (.cells #[.int .u64 y1, .int .u64 y2] 24)) (w.heap.size) 24 #[.int .u64 x1, .int .u64 x2] := Sn.bk_old (Sn.bk_new _ _ _) _
      have hr1 : Sn.Bk ((w.alloc (.cells #[.int .u64 x1, .int .u64 x2] 24)).alloc (.cells #[.int .u64 y1, .int .u64 y2] 24)) (w.heap.size + 1) 24 #[.int .u64 y1, .int .u64 y2] := Sn.bk_at (by simp)
      generalize ((w.alloc (.cells #[.int .u64 x1, .int .u64 x2] 24)).alloc (.cells #[.int .u64 y1, .int .u64 y2] 24)) = v at *
      have HB := Lib.hid hB
      have HR0 := Lib.hid hr0
      have HR1 := Lib.hid hr1
      clear hB hr0 hr1
      go_wp2_with fail
      refine (sn_awake v).mono ?_
      rintro e v2 ⟨rfl, hb⟩
      have hr0 := Sn.bk_below HR0.out hb (Sn.bk_lt HR0.out)
      have hr1 := Sn.bk_below HR1.out hb (Sn.bk_lt HR1.out)
      have hB := Sn.below_next HB.out hb HB.out.size
      clear HB HR0 HR1 hb
      have HB := Lib.hid hB
      have HR0 := Lib.hid hr0
      have HR1 := Lib.hid hr1
      clear hB hr0 hr1
      clear v
      rename World => v
      have c0_0 := Sn.bk_c HR0.out 0
      have c0_1 := Sn.bk_c HR0.out 1
      have c1_0 := Sn.bk_c HR1.out 0
      have c1_1 := Sn.bk_c HR1.out 1
      simp only [List.getElem?_toArray, List.getElem?_cons_zero, List.getElem?_cons_succ] at c0_0 c0_1 c1_0 c1_1
      go_wp2_with fail
      clear c0_0 c0_1 c1_0 c1_1
      refine (C1.out v).mono ?_
      rintro e v2 ⟨rfl, hb⟩
      have hr0 := Sn.bk_below HR0.out hb (Sn.bk_lt HR0.out)
      have hr1 := Sn.bk_below HR1.out hb (Sn.bk_lt HR1.out)
      have hB := Sn.below_next HB.out hb HB.out.size
      clear HB HR0 HR1 hb
      have HB := Lib.hid hB
      have HR0 := Lib.hid hr0
      have HR1 := Lib.hid hr1
      clear hB hr0 hr1
      clear v
      rename World => v
      have c0_0 := Sn.bk_c HR0.out 0
      have c0_1 := Sn.bk_c HR0.out 1
      have c1_0 := Sn.bk_c HR1.out 0
      have c1_1 := Sn.bk_c HR1.out 1
      simp only [List.getElem?_toArray, List.getElem?_cons_zero, List.getElem?_cons_succ] at c0_0 c0_1 c1_0 c1_1
      go_wp2_with fail
      clear c0_0 c0_1 c1_0 c1_1
      refine (C2.out v).mono ?_
      rintro e v2 ⟨rfl, hb⟩
      have hr0 := Sn.bk_below HR0.out hb (Sn.bk_lt HR0.out)
      have hr1 := Sn.bk_below HR1.out hb (Sn.bk_lt HR1.out)
      have hB := Sn.below_next HB.out hb HB.out.size
      clear HB HR0 HR1 hb
      have HB := Lib.hid hB
      have HR0 := Lib.hid hr0
      have HR1 := Lib.hid hr1
      clear hB hr0 hr1
      clear v
      rename World => v
      have c0_0 := Sn.bk_c HR0.out 0
      have c0_1 := Sn.bk_c HR0.out 1
      have c1_0 := Sn.bk_c HR1.out 0
      have c1_1 := Sn.bk_c HR1.out 1
      simp only [List.getElem?_toArray, List.getElem?_cons_zero, List.getElem?_cons_succ] at c0_0 c0_1 c1_0 c1_1
      go_wp2_with fail
      clear c0_0 c0_1 c1_0 c1_1
      refine (HS.out v).mono ?_
      rintro e v2 ⟨rfl, hb⟩
      have hr0 := Sn.bk_below HR0.out hb (Sn.bk_lt HR0.out)
      have hr1 := Sn.bk_below HR1.out hb (Sn.bk_lt HR1.out)
      have hB := Sn.below_next HB.out hb HB.out.size
      clear HB HR0 HR1 hb
      have HB := Lib.hid hB
      have HR0 := Lib.hid hr0
      have HR1 := Lib.hid hr1
      clear hB hr0 hr1
      clear v
      rename World => v
      go_wp2_with fail
      have hB : Below w.heap.size w (v.alloc (.cells #[.int .u64 s1, .int .u64 s2] 24)) := (HB.out).alloc (by exact HB.out.size) _
      have hr0 : Sn.Bk (v.alloc (.cells #[.int .u64 s1, .int .u64 s2] 24)) (w.heap.size) 24 #[.int .u64 x1, .int .u64 x2] := Sn.bk_old (HR0.out) _
      have hr1 : Sn.Bk (v.alloc (.cells #[.int .u64 s1, .int .u64 s2] 24)) (w.heap.size + 1) 24 #[.int .u64 y1, .int .u64 y2] := Sn.bk_old (HR1.out) _
      have hr2 : Sn.Bk (v.alloc (.cells #[.int .u64 s1, .int .u64 s2] 24)) (v.heap.size) 24 #[.int .u64 s1, .int .u64 s2] := Sn.bk_new _ _ _
      clear HB HR0 HR1
      generalize (v.alloc (.cells #[.int .u64 s1, .int .u64 s2] 24)) = u at *
      generalize v.heap.size = b3 at *
      clear v
      rename World => v
      have HB := Lib.hid hB
      have HR0 := Lib.hid hr0
      have HR1 := Lib.hid hr1
      have HR2 := Lib.hid hr2
      clear hB hr0 hr1 hr2
      refine (HA.out v).mono ?_
      rintro e v2 ⟨rfl, nd, rfl⟩
      have hB := Sn.below_drewN HB.out nd
      have hr2 : Sn.Bk (v.drewN nd) b3 24 #[.int .u64 s1, .int .u64 s2] := HR2.out
      clear HB HR0 HR1 HR2
      generalize v.drewN nd = v2 at *
      clear v
      rename World => v
      have HB := Lib.hid hB
      have HR2 := Lib.hid hr2
      clear hB hr2
      go_wp2_with (first | (go_at_call 20; refine (HM.out _).mono ?_; rintro e w9 ⟨rfl, rfl⟩) | (go_at_call 20; refine (HN.out _).mono ?_; rintro e w9 ⟨rfl, rfl⟩))
      rename World => v
      have hB : Below w.heap.size w ((v.alloc (.cells #[.int .u64 c1, .int .u64 c1] 24)).alloc (.cells #[.int .u64 c2, .int .u64 c2] 24)) := ((HB.out).alloc (by exact HB.out.size) _).alloc (by have := HB.out.size; simp; omega) _
      have hr2 : Sn.Bk ((v.alloc (.cells #[.int .u64 c1, .int .u64 c1] 24)).alloc (.cells #[.int .u64 c2, .int .u64 c2] 24)) (b3) 24 #[.int .u64 s1, .int .u64 s2] := Sn.bk_old (Sn.bk_old (HR2.out) _) _
      have hr3 : Sn.Bk ((v.alloc (.cells #[.int .u64 c1, .int .u64 c1] 24)).alloc (.cells #[.int .u64 c2, .int .u64 c2] 24)) (v.heap.size) 24 #[.int .u64 c1, .int .u64 c1] := Sn.bk_old (Sn.bk_new _ _ _) _
      have hr4 : Sn.Bk ((v.alloc (.cells #[.int .u64 c1, .int .u64 c1] 24)).alloc (.cells #[.int .u64 c2, .int .u64 c2] 24)) (v.heap.size + 1) 24 #[.int .u64 c2, .int .u64 c2] := Sn.bk_at (by simp)
      clear HB HR2
      generalize ((v.alloc (.cells #[.int .u64 c1, .int .u64 c1] 24)).alloc (.cells #[.int .u64 c2, .int .u64 c2] 24)) = u at *
      generalize v.heap.size = b4 at *
      clear v
      rename World => v
      have HB := Lib.hid hB
      have HR2 := Lib.hid hr2
      have HR3 := Lib.hid hr3
      have HR4 := Lib.hid hr4
      clear hB hr2 hr3 hr4
      refine qc_all (fun W => Below v.heap.size v W) (by kernel_rfl) (by kernel_rfl) (Below.refl _ _).drew ?_
      refine qc_take (.int .i64 a) (by rfl) (fun W hW => ?_) ?_
      · (try dsimp only at hW)
        go_simp
      try simp only [List.getElem_toArray, List.getElem_cons_succ, List.getElem_cons_zero, Act.put, List.setIfInBounds_toArray, List.set_cons_zero, List.set_cons_succ]
      refine qc_take (.agg #[.int .u64 s1, .int .u64 s2]) (by rfl) (fun W hW => ?_) ?_
      · (try dsimp only at hW)
        have y := Sn.bk_below HR2.out hW (Sn.bk_lt HR2.out)
        have y0 := Sn.bk_c y 0
        have y1 := Sn.bk_c y 1
        simp only [List.getElem?_toArray, List.getElem?_cons_zero, List.getElem?_cons_succ] at y0 y1
        go_simp
      try simp only [List.getElem_toArray, List.getElem_cons_succ, List.getElem_cons_zero, Act.put, List.setIfInBounds_toArray, List.set_cons_zero, List.set_cons_succ]
      refine qc_take (.int .u64 t) (by rfl) (fun W hW => ?_) ?_
      · (try dsimp only at hW)
        go_simp
      try simp only [List.getElem_toArray, List.getElem_cons_succ, List.getElem_cons_zero, Act.put, List.setIfInBounds_toArray, List.set_cons_zero, List.set_cons_succ]
      refine qc_take (.bool true) (by rfl) (fun W hW => ?_) ?_
      · (try dsimp only at hW)
        go_simp
        exact (C3.out W).mono fun e w9 h9 => ⟨h9.1, Sn.below_next hW h9.2 hW.size⟩
      try simp only [List.getElem_toArray, List.getElem_cons_succ, List.getElem_cons_zero, Act.put, List.setIfInBounds_toArray, List.set_cons_zero, List.set_cons_succ]
      refine qc_take (.bool true) (by rfl) (fun W hW => ?_) ?_
      · (try dsimp only at hW)
        go_simp
      try simp only [List.getElem_toArray, List.getElem_cons_succ, List.getElem_cons_zero, Act.put, List.setIfInBounds_toArray, List.set_cons_zero, List.set_cons_succ]
      refine qc_take (.pointer (some ⟨b3, 0, none⟩)) (by rfl) (fun W hW => ?_) ?_
      · (try dsimp only at hW)
        go_simp
      try simp only [List.getElem_toArray, List.getElem_cons_succ, List.getElem_cons_zero, Act.put, List.setIfInBounds_toArray, List.set_cons_zero, List.set_cons_succ]
      refine qc_take (.int .u64 s1) (by rfl) (fun W hW => ?_) ?_
      · (try dsimp only at hW)
        have y := Sn.bk_below HR2.out hW (Sn.bk_lt HR2.out)
        have y0 := Sn.bk_c y 0
        have y1 := Sn.bk_c y 1
        simp only [List.getElem?_toArray, List.getElem?_cons_zero, List.getElem?_cons_succ] at y0 y1
        go_simp
      try simp only [List.getElem_toArray, List.getElem_cons_succ, List.getElem_cons_zero, Act.put, List.setIfInBounds_toArray, List.set_cons_zero, List.set_cons_succ]
      refine qc_take (.pointer (some ⟨b3, 1, none⟩)) (by rfl) (fun W hW => ?_) ?_
      · (try dsimp only at hW)
        go_simp
      try simp only [List.getElem_toArray, List.getElem_cons_succ, List.getElem_cons_zero, Act.put, List.setIfInBounds_toArray, List.set_cons_zero, List.set_cons_succ]
      refine qc_take (.int .u64 s2) (by rfl) (fun W hW => ?_) ?_
      · (try dsimp only at hW)
        have y := Sn.bk_below HR2.out hW (Sn.bk_lt HR2.out)
        have y0 := Sn.bk_c y 0
        have y1 := Sn.bk_c y 1
        simp only [List.getElem?_toArray, List.getElem?_cons_zero, List.getElem?_cons_succ] at y0 y1
        go_simp
      try simp only [List.getElem_toArray, List.getElem_cons_succ, List.getElem_cons_zero, Act.put, List.setIfInBounds_toArray, List.set_cons_zero, List.set_cons_succ]
      refine qc_take (.bool true) (by rfl) (fun W hW => ?_) ?_
      · (try dsimp only at hW)
        go_simp
      try simp only [List.getElem_toArray, List.getElem_cons_succ, List.getElem_cons_zero, Act.put, List.setIfInBounds_toArray, List.set_cons_zero, List.set_cons_succ]
      refine qc_take (.bool true) (by rfl) (fun W hW => ?_) ?_
      · (try dsimp only at hW)
        go_simp
      try simp only [List.getElem_toArray, List.getElem_cons_succ, List.getElem_cons_zero, Act.put, List.setIfInBounds_toArray, List.set_cons_zero, List.set_cons_succ]
      refine qc_take (.bool true) (by rfl) (fun W hW => ?_) ?_
      · (try dsimp only at hW)
        go_simp
      try simp only [List.getElem_toArray, List.getElem_cons_succ, List.getElem_cons_zero, Act.put, List.setIfInBounds_toArray, List.set_cons_zero, List.set_cons_succ]
      refine qc_take (.pointer (some ⟨b3, 1, none⟩)) (by rfl) (fun W hW => ?_) ?_
      · (try dsimp only at hW)
        go_simp
      try simp only [List.getElem_toArray, List.getElem_cons_succ, List.getElem_cons_zero, Act.put, List.setIfInBounds_toArray, List.set_cons_zero, List.set_cons_succ]
      refine qc_take (.int .u64 s2) (by rfl) (fun W hW => ?_) ?_
      · (try dsimp only at hW)
        have y := Sn.bk_below HR2.out hW (Sn.bk_lt HR2.out)
        have y0 := Sn.bk_c y 0
        have y1 := Sn.bk_c y 1
        simp only [List.getElem?_toArray, List.getElem?_cons_zero, List.getElem?_cons_succ] at y0 y1
        go_simp
      try simp only [List.getElem_toArray, List.getElem_cons_succ, List.getElem_cons_zero, Act.put, List.setIfInBounds_toArray, List.set_cons_zero, List.set_cons_succ]
      refine qc_take (.int .i64 a) (by rfl) (fun W hW => ?_) ?_
      · (try dsimp only at hW)
        go_simp
      try simp only [List.getElem_toArray, List.getElem_cons_succ, List.getElem_cons_zero, Act.put, List.setIfInBounds_toArray, List.set_cons_zero, List.set_cons_succ]
      refine qc_take (.int .u64 (Wd.msk a)) (by rfl) (fun W hW => ?_) ?_
      · (try dsimp only at hW)
        go_simp
        exact (mask_any a W).mono fun e w9 h9 => ⟨h9.1, h9.2 ▸ hW⟩
      try simp only [List.getElem_toArray, List.getElem_cons_succ, List.getElem_cons_zero, Act.put, List.setIfInBounds_toArray, List.set_cons_zero, List.set_cons_succ]
      refine qc_take (.bool true) (by rfl) (fun W hW => ?_) ?_
      · (try dsimp only at hW)
        go_simp
      try simp only [List.getElem_toArray, List.getElem_cons_succ, List.getElem_cons_zero, Act.put, List.setIfInBounds_toArray, List.set_cons_zero, List.set_cons_succ]
      refine qc_take (.bool true) (by rfl) (fun W hW => ?_) ?_
      · (try dsimp only at hW)
        go_simp
      try simp only [List.getElem_toArray, List.getElem_cons_succ, List.getElem_cons_zero, Act.put, List.setIfInBounds_toArray, List.set_cons_zero, List.set_cons_succ]
      refine qc_take (.bool true) (by rfl) (fun W hW => ?_) ?_
      · (try dsimp only at hW)
        go_simp
      try simp only [List.getElem_toArray, List.getElem_cons_succ, List.getElem_cons_zero, Act.put, List.setIfInBounds_toArray, List.set_cons_zero, List.set_cons_succ]
      refine qc_take (.int .i64 op) (by rfl) (fun W hW => ?_) ?_
      · (try dsimp only at hW)
        go_simp
      try simp only [List.getElem_toArray, List.getElem_cons_succ, List.getElem_cons_zero, Act.put, List.setIfInBounds_toArray, List.set_cons_zero, List.set_cons_succ]
      refine qc_take (.int .i64 a) (by rfl) (fun W hW => ?_) ?_
      · (try dsimp only at hW)
        go_simp
      try simp only [List.getElem_toArray, List.getElem_cons_succ, List.getElem_cons_zero, Act.put, List.setIfInBounds_toArray, List.set_cons_zero, List.set_cons_succ]
      refine qc_take (.agg #[.int .u64 c1, .int .u64 c1]) (by rfl) (fun W hW => ?_) ?_
      · (try dsimp only at hW)
        have y := Sn.bk_below HR3.out hW (Sn.bk_lt HR3.out)
        have y0 := Sn.bk_c y 0
        have y1 := Sn.bk_c y 1
        simp only [List.getElem?_toArray, List.getElem?_cons_zero, List.getElem?_cons_succ] at y0 y1
        go_simp
      try simp only [List.getElem_toArray, List.getElem_cons_succ, List.getElem_cons_zero, Act.put, List.setIfInBounds_toArray, List.set_cons_zero, List.set_cons_succ]
      refine qc_take (.agg #[.int .u64 c2, .int .u64 c2]) (by rfl) (fun W hW => ?_) ?_
      · (try dsimp only at hW)
        have y := Sn.bk_below HR4.out hW (Sn.bk_lt HR4.out)
        have y0 := Sn.bk_c y 0
        have y1 := Sn.bk_c y 1
        simp only [List.getElem?_toArray, List.getElem?_cons_zero, List.getElem?_cons_succ] at y0 y1
        go_simp
      try simp only [List.getElem_toArray, List.getElem_cons_succ, List.getElem_cons_zero, Act.put, List.setIfInBounds_toArray, List.set_cons_zero, List.set_cons_succ]
      refine qc_take (.agg #[.int .u64 t, .int .u64 t]) (by rfl) (fun W hW => ?_) ?_
      · (try dsimp only at hW)
        go_simp
        exact (HP.out W).mono fun e w9 h9 => ⟨h9.1, Sn.below_next hW h9.2 hW.size⟩
      try simp only [List.getElem_toArray, List.getElem_cons_succ, List.getElem_cons_zero, Act.put, List.setIfInBounds_toArray, List.set_cons_zero, List.set_cons_succ]
      refine qc_take (.int .u64 t) (by rfl) (fun W hW => ?_) ?_
      · (try dsimp only at hW)
        go_simp
      try simp only [List.getElem_toArray, List.getElem_cons_succ, List.getElem_cons_zero, Act.put, List.setIfInBounds_toArray, List.set_cons_zero, List.set_cons_succ]
      refine qc_take (.int .u64 t) (by rfl) (fun W hW => ?_) ?_
      · (try dsimp only at hW)
        go_simp
      try simp only [List.getElem_toArray, List.getElem_cons_succ, List.getElem_cons_zero, Act.put, List.setIfInBounds_toArray, List.set_cons_zero, List.set_cons_succ]
      refine qc_take (.agg #[.int .u64 t, .int .u64 t]) (by rfl) (fun W hW => ?_) ?_
      · (try dsimp only at hW)
        go_simp
      try simp only [List.getElem_toArray, List.getElem_cons_succ, List.getElem_cons_zero, Act.put, List.setIfInBounds_toArray, List.set_cons_zero, List.set_cons_succ]
      refine qc_take (.bool true) (by rfl) (fun W hW => ?_) ?_
      · (try dsimp only at hW)
        go_simp
      try simp only [List.getElem_toArray, List.getElem_cons_succ, List.getElem_cons_zero, Act.put, List.setIfInBounds_toArray, List.set_cons_zero, List.set_cons_succ]
      refine qc_take (.bool true) (by rfl) (fun W hW => ?_) ?_
      · (try dsimp only at hW)
        go_simp
      try simp only [List.getElem_toArray, List.getElem_cons_succ, List.getElem_cons_zero, Act.put, List.setIfInBounds_toArray, List.set_cons_zero, List.set_cons_succ]
      refine qc_take (.bool true) (by rfl) (fun W hW => ?_) ?_
      · (try dsimp only at hW)
        go_simp
      try simp only [List.getElem_toArray, List.getElem_cons_succ, List.getElem_cons_zero, Act.put, List.setIfInBounds_toArray, List.set_cons_zero, List.set_cons_succ]
      refine wpQuiet_nil ?_
      intro v2 hb
      have hr2 := Sn.bk_below HR2.out hb (Sn.bk_lt HR2.out)
      have hB := Sn.below_next HB.out hb HB.out.size
      clear HB HR2 hb
      have HB := Lib.hid hB
      have HR2 := Lib.hid hr2
      clear hB hr2
      go_wp2_with fail
      go_ret
      exact ⟨rfl, HB.out⟩
    · have C1 : Hid (∀ W : World, Calls Try.prog 13 #[.int .i64 a, Sn.v (x1, x2), .int .u64 n] W fun e w' => e = .returned (.bool true) ∧ Below W.heap.size W w') := Lib.hid (fun W => by
        have h := has_any a (x1, x2) n W
        rw [show Sn.has a (x1, x2) n = true by simpa using hC1] at h
        exact h)
      have C2 : Hid (∀ W : World, Calls Try.prog 13 #[.int .i64 a, Sn.v (y1, y2), .int .u64 m] W fun e w' => e = .returned (.bool false) ∧ Below W.heap.size W w') := Lib.hid (fun W => by
        have h := has_any a (y1, y2) m W
        rw [show Sn.has a (y1, y2) m = false by simpa using hC2] at h
        exact h)
      clear hC1 hC2 hx hy
      show Calls Try.prog 4 #[.int .i64 op, .int .i64 a, .agg #[.int .u64 x1, .int .u64 x2], .agg #[.int .u64 y1, .int .u64 y2], .int .u64 n, .int .u64 m] w _
      go_enter Try.func4, Try.ntmps4
      go_upto_region 1 with (fail)
      have hB : Below w.heap.size w ((w.alloc (.cells #[.int .u64 x1, .int .u64 x2] 24)).alloc (.cells #[.int .u64 y1, .int .u64 y2] 24)) := (((Below.refl _ _).alloc (Nat.le_refl _) _).alloc (by simp) _)
      have hr0 : Sn.Bk ((w.alloc (.cells #[.int .u64 x1, .int .u64 x2] 24)).alloc (.cells #[.int .u64 y1, .int .u64 y2] 24)) (w.heap.size) 24 #[.int .u64 x1, .int .u64 x2] := Sn.bk_old (Sn.bk_new _ _ _) _
      have hr1 : Sn.Bk ((w.alloc (.cells #[.int .u64 x1, .int .u64 x2] 24)).alloc (.cells #[.int .u64 y1, .int .u64 y2] 24)) (w.heap.size + 1) 24 #[.int .u64 y1, .int .u64 y2] := Sn.bk_at (by simp)
      generalize ((w.alloc (.cells #[.int .u64 x1, .int .u64 x2] 24)).alloc (.cells #[.int .u64 y1, .int .u64 y2] 24)) = v at *
      have HB := Lib.hid hB
      have HR0 := Lib.hid hr0
      have HR1 := Lib.hid hr1
      clear hB hr0 hr1
      go_wp2_with fail
      refine (sn_awake v).mono ?_
      rintro e v2 ⟨rfl, hb⟩
      have hr0 := Sn.bk_below HR0.out hb (Sn.bk_lt HR0.out)
      have hr1 := Sn.bk_below HR1.out hb (Sn.bk_lt HR1.out)
      have hB := Sn.below_next HB.out hb HB.out.size
      clear HB HR0 HR1 hb
      have HB := Lib.hid hB
      have HR0 := Lib.hid hr0
      have HR1 := Lib.hid hr1
      clear hB hr0 hr1
      clear v
      rename World => v
      have c0_0 := Sn.bk_c HR0.out 0
      have c0_1 := Sn.bk_c HR0.out 1
      have c1_0 := Sn.bk_c HR1.out 0
      have c1_1 := Sn.bk_c HR1.out 1
      simp only [List.getElem?_toArray, List.getElem?_cons_zero, List.getElem?_cons_succ] at c0_0 c0_1 c1_0 c1_1
      go_wp2_with fail
      clear c0_0 c0_1 c1_0 c1_1
      refine (C1.out v).mono ?_
      rintro e v2 ⟨rfl, hb⟩
      have hr0 := Sn.bk_below HR0.out hb (Sn.bk_lt HR0.out)
      have hr1 := Sn.bk_below HR1.out hb (Sn.bk_lt HR1.out)
      have hB := Sn.below_next HB.out hb HB.out.size
      clear HB HR0 HR1 hb
      have HB := Lib.hid hB
      have HR0 := Lib.hid hr0
      have HR1 := Lib.hid hr1
      clear hB hr0 hr1
      clear v
      rename World => v
      have c0_0 := Sn.bk_c HR0.out 0
      have c0_1 := Sn.bk_c HR0.out 1
      have c1_0 := Sn.bk_c HR1.out 0
      have c1_1 := Sn.bk_c HR1.out 1
      simp only [List.getElem?_toArray, List.getElem?_cons_zero, List.getElem?_cons_succ] at c0_0 c0_1 c1_0 c1_1
      go_wp2_with fail
      clear c0_0 c0_1 c1_0 c1_1
      refine (C2.out v).mono ?_
      rintro e v2 ⟨rfl, hb⟩
      have hr0 := Sn.bk_below HR0.out hb (Sn.bk_lt HR0.out)
      have hr1 := Sn.bk_below HR1.out hb (Sn.bk_lt HR1.out)
      have hB := Sn.below_next HB.out hb HB.out.size
      clear HB HR0 HR1 hb
      have HB := Lib.hid hB
      have HR0 := Lib.hid hr0
      have HR1 := Lib.hid hr1
      clear hB hr0 hr1
      clear v
      rename World => v
      go_wp2_with fail
      go_ret
      exact ⟨rfl, HB.out⟩
  · have C1 : Hid (∀ W : World, Calls Try.prog 13 #[.int .i64 a, Sn.v (x1, x2), .int .u64 n] W fun e w' => e = .returned (.bool false) ∧ Below W.heap.size W w') := Lib.hid (fun W => by
      have h := has_any a (x1, x2) n W
      rw [show Sn.has a (x1, x2) n = false by simpa using hC1] at h
      exact h)
    clear hC1 hx hy
    show Calls Try.prog 4 #[.int .i64 op, .int .i64 a, .agg #[.int .u64 x1, .int .u64 x2], .agg #[.int .u64 y1, .int .u64 y2], .int .u64 n, .int .u64 m] w _
    go_enter Try.func4, Try.ntmps4
    go_upto_region 1 with (fail)
    have hB : Below w.heap.size w ((w.alloc (.cells #[.int .u64 x1, .int .u64 x2] 24)).alloc (.cells #[.int .u64 y1, .int .u64 y2] 24)) := (((Below.refl _ _).alloc (Nat.le_refl _) _).alloc (by simp) _)
    have hr0 : Sn.Bk ((w.alloc (.cells #[.int .u64 x1, .int .u64 x2] 24)).alloc (.cells #[.int .u64 y1, .int .u64 y2] 24)) (w.heap.size) 24 #[.int .u64 x1, .int .u64 x2] := Sn.bk_old (Sn.bk_new _ _ _) _
    have hr1 : Sn.Bk ((w.alloc (.cells #[.int .u64 x1, .int .u64 x2] 24)).alloc (.cells #[.int .u64 y1, .int .u64 y2] 24)) (w.heap.size + 1) 24 #[.int .u64 y1, .int .u64 y2] := Sn.bk_at (by simp)
    generalize ((w.alloc (.cells #[.int .u64 x1, .int .u64 x2] 24)).alloc (.cells #[.int .u64 y1, .int .u64 y2] 24)) = v at *
    have HB := Lib.hid hB
    have HR0 := Lib.hid hr0
    have HR1 := Lib.hid hr1
    clear hB hr0 hr1
    go_wp2_with fail
    refine (sn_awake v).mono ?_
    rintro e v2 ⟨rfl, hb⟩
    have hr0 := Sn.bk_below HR0.out hb (Sn.bk_lt HR0.out)
    have hr1 := Sn.bk_below HR1.out hb (Sn.bk_lt HR1.out)
    have hB := Sn.below_next HB.out hb HB.out.size
    clear HB HR0 HR1 hb
    have HB := Lib.hid hB
    have HR0 := Lib.hid hr0
    have HR1 := Lib.hid hr1
    clear hB hr0 hr1
    clear v
    rename World => v
    have c0_0 := Sn.bk_c HR0.out 0
    have c0_1 := Sn.bk_c HR0.out 1
    have c1_0 := Sn.bk_c HR1.out 0
    have c1_1 := Sn.bk_c HR1.out 1
    simp only [List.getElem?_toArray, List.getElem?_cons_zero, List.getElem?_cons_succ] at c0_0 c0_1 c1_0 c1_1
    go_wp2_with fail
    clear c0_0 c0_1 c1_0 c1_1
    refine (C1.out v).mono ?_
    rintro e v2 ⟨rfl, hb⟩
    have hr0 := Sn.bk_below HR0.out hb (Sn.bk_lt HR0.out)
    have hr1 := Sn.bk_below HR1.out hb (Sn.bk_lt HR1.out)
    have hB := Sn.below_next HB.out hb HB.out.size
    clear HB HR0 HR1 hb
    have HB := Lib.hid hB
    have HR0 := Lib.hid hr0
    have HR1 := Lib.hid hr1
    clear hB hr0 hr1
    clear v
    rename World => v
    go_wp2_with fail
    go_ret
    exact ⟨rfl, HB.out⟩


end Go.Proofs.Ytbjckcjfambpoaa
