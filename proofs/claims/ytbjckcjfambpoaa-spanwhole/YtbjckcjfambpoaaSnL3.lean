/-
  Layer 11: the walk of SpanWhole.
-/
import Derived.Test.YtbjckcjfambpoaaSnL2
namespace Go.Proofs.Ytbjckcjfambpoaa
set_option linter.unusedSimpArgs false
set_option linter.unusedVariables false
open Go.RowKit Go.Maps
set_option maxRecDepth 100000

set_option maxHeartbeats 12800000 in
theorem whole_walk (op a : Int) (x y : Sn.S) (n : Int) (hx : Sn.U x) (hy : Sn.U y) (w : World) :
    Calls Try.prog 6 #[.int .i64 op, .int .i64 a, Sn.v x, Sn.v y, .int .u64 n] w fun e w' => e = .returned (.bool true) ∧ Below w.heap.size w w' := by
  obtain ⟨x1, x2⟩ := x
  obtain ⟨y1, y2⟩ := y
  by_cases g1 : x1 ≤ x2
  · by_cases g2 : x2 ≤ Wd.msk a
    · have hR : Sn.rt a (x1, x2) = (x1, x2) := Sn.rt_of a _ ⟨hx.1.1, g1, g2⟩
      have hR2 : Sn.rt a (x1, x2) = (x1, x2) := hR
      have R1 : Hid (∀ W : World, Calls Try.prog 11 #[.int .i64 a, Sn.v (x1, x2)] W fun e w' => e = .returned (Sn.v (x1, x2)) ∧ Below W.heap.size W w') := Lib.hid (fun W => by
        have h := right_any a (x1, x2) W
        rw [hR] at h
        exact h)
      have R2 : Hid (∀ W : World, Calls Try.prog 11 #[.int .i64 a, Sn.v (x1, x2)] W fun e w' => e = .returned (Sn.v (x1, x2)) ∧ Below W.heap.size W w') := Lib.hid (fun W => by
        have h := right_any a (x1, x2) W
        rw [hR2] at h
        exact h)
      have C1 : Hid (∀ W : World, Calls Try.prog 13 #[.int .i64 a, Sn.v (0, Wd.msk a), .int .u64 n] W fun e w' => e = .returned (.bool true) ∧ Below W.heap.size W w') := Lib.hid (fun W => by
        have h := has_any a (0, Wd.msk a) n W
        rw [Sn.whole_has] at h
        exact h)
      clear hR hR2 hx hy
      show Calls Try.prog 6 #[.int .i64 op, .int .i64 a, .agg #[.int .u64 x1, .int .u64 x2], .agg #[.int .u64 y1, .int .u64 y2], .int .u64 n] w _
      go_enter Try.func6, Try.ntmps6
      go_upto_region 1 with (fail)
      have hB : Below w.heap.size w ((w.alloc (.cells #[.int .u64 x1, .int .u64 x2] 24)).alloc (.cells #[.int .u64 y1, .int .u64 y2] 24)) := (((Below.refl _ _).alloc (Nat.le_refl _) _).alloc (by simp) _)
      have hr0 : Sn.Bk ((w.alloc (.cells #[.int .u64 x1, .int .u64 x2] 24)).alloc (.cells #[.int .u64 y1, .int .u64 y2] 24)) (w.heap.size) 24 #[.int .u64 x1, .int .u64 x2] := Sn.bk_old (Sn.bk_new _ _ _) _
      have hr1 : Sn.Bk ((w.alloc (.cells #[.int .u64 x1, .int .u64 x2] 24)).alloc (.cells #[.int .u64 y1, .int .u64 y2] 24)) (w.heap.size + 1) 24 #[.int .u64 y1, .int .u64 y2] := Sn.bk_at (by simp)
      generalize ((w.alloc (.cells #[.int .u64 x1, .int .u64 x2] 24)).alloc (.cells #[.int .u64 y1, .int .u64 y2] 24)) = v at *
      have HB := Lib.hid hB
      have HR0 := Lib.hid hr0
      have HR1 := Lib.hid hr1
      clear hB hr0 hr1
      go_wp2_with fail
      refine (sn_awake v).mono ?_
      rintro e v2 ⟨rfl, hb⟩
      have hr0 := Sn.bk_below HR0.out hb (Sn.bk_lt HR0.out)
      have hr1 := Sn.bk_below HR1.out hb (Sn.bk_lt HR1.out)
      have hB := Sn.below_next HB.out hb HB.out.size
      clear HB HR0 HR1 hb
      have HB := Lib.hid hB
      have HR0 := Lib.hid hr0
      have HR1 := Lib.hid hr1
      clear hB hr0 hr1
      clear v
      rename World => v
      go_wp2_with (go_at_call 21; refine (mask_any _ _).mono ?_; rintro e w9 ⟨rfl, rfl⟩)
      rename World => v
      have hB : Below w.heap.size w (v.alloc (.cells #[.int .u64 0, .int .u64 (Wd.msk a)] 24)) := (HB.out).alloc (by exact HB.out.size) _
      have hr0 : Sn.Bk (v.alloc (.cells #[.int .u64 0, .int .u64 (Wd.msk a)] 24)) (w.heap.size) 24 #[.int .u64 x1, .int .u64 x2] := Sn.bk_old (HR0.out) _
      have hr1 : Sn.Bk (v.alloc (.cells #[.int .u64 0, .int .u64 (Wd.msk a)] 24)) (w.heap.size + 1) 24 #[.int .u64 y1, .int .u64 y2] := Sn.bk_old (HR1.out) _
      have hr2 : Sn.Bk (v.alloc (.cells #[.int .u64 0, .int .u64 (Wd.msk a)] 24)) (v.heap.size) 24 #[.int .u64 0, .int .u64 (Wd.msk a)] := Sn.bk_new _ _ _
      clear HB HR0 HR1
      generalize (v.alloc (.cells #[.int .u64 0, .int .u64 (Wd.msk a)] 24)) = u at *
      generalize v.heap.size = b3 at *
      clear v
      rename World => v
      have HB := Lib.hid hB
      have HR0 := Lib.hid hr0
      have HR1 := Lib.hid hr1
      have HR2 := Lib.hid hr2
      clear hB hr0 hr1 hr2
      refine qc_all (fun W => Below v.heap.size v W) (by kernel_rfl) (by kernel_rfl) (Below.refl _ _).drew ?_
      refine qc_take (.int .i64 a) (by rfl) (fun W hW => ?_) ?_
      · (try dsimp only at hW)
        go_simp
      try simp only [List.getElem_toArray, List.getElem_cons_succ, List.getElem_cons_zero, Act.put, List.setIfInBounds_toArray, List.set_cons_zero, List.set_cons_succ]
      refine qc_take (.agg #[.int .u64 0, .int .u64 (Wd.msk a)]) (by rfl) (fun W hW => ?_) ?_
      · (try dsimp only at hW)
        have y := Sn.bk_below HR2.out hW (Sn.bk_lt HR2.out)
        have y0 := Sn.bk_c y 0
        have y1 := Sn.bk_c y 1
        simp only [List.getElem?_toArray, List.getElem?_cons_zero, List.getElem?_cons_succ] at y0 y1
        go_simp
      try simp only [List.getElem_toArray, List.getElem_cons_succ, List.getElem_cons_zero, Act.put, List.setIfInBounds_toArray, List.set_cons_zero, List.set_cons_succ]
      refine qc_take (.int .u64 n) (by rfl) (fun W hW => ?_) ?_
      · (try dsimp only at hW)
        go_simp
      try simp only [List.getElem_toArray, List.getElem_cons_succ, List.getElem_cons_zero, Act.put, List.setIfInBounds_toArray, List.set_cons_zero, List.set_cons_succ]
      refine qc_take (.bool true) (by rfl) (fun W hW => ?_) ?_
      · (try dsimp only at hW)
        go_simp
        exact (C1.out W).mono fun e w9 h9 => ⟨h9.1, Sn.below_next hW h9.2 hW.size⟩
      try simp only [List.getElem_toArray, List.getElem_cons_succ, List.getElem_cons_zero, Act.put, List.setIfInBounds_toArray, List.set_cons_zero, List.set_cons_succ]
      refine qc_take (.bool false) (by rfl) (fun W hW => ?_) ?_
      · (try dsimp only at hW)
        go_simp
      try simp only [List.getElem_toArray, List.getElem_cons_succ, List.getElem_cons_zero, Act.put, List.setIfInBounds_toArray, List.set_cons_zero, List.set_cons_succ]
      refine qc_take (.bool false) (by rfl) (fun W hW => ?_) ?_
      · (try dsimp only at hW)
        go_simp
      try simp only [List.getElem_toArray, List.getElem_cons_succ, List.getElem_cons_zero, Act.put, List.setIfInBounds_toArray, List.set_cons_zero, List.set_cons_succ]
      refine qc_take (.int .i64 a) (by rfl) (fun W hW => ?_) ?_
      · (try dsimp only at hW)
        go_simp
      try simp only [List.getElem_toArray, List.getElem_cons_succ, List.getElem_cons_zero, Act.put, List.setIfInBounds_toArray, List.set_cons_zero, List.set_cons_succ]
      refine qc_take (.int .i64 a) (by rfl) (fun W hW => ?_) ?_
      · (try dsimp only at hW)
        go_simp
      try simp only [List.getElem_toArray, List.getElem_cons_succ, List.getElem_cons_zero, Act.put, List.setIfInBounds_toArray, List.set_cons_zero, List.set_cons_succ]
      refine qc_take (.agg #[.int .u64 x1, .int .u64 x2]) (by rfl) (fun W hW => ?_) ?_
      · (try dsimp only at hW)
        have y := Sn.bk_below HR0.out hW (Sn.bk_lt HR0.out)
        have y0 := Sn.bk_c y 0
        have y1 := Sn.bk_c y 1
        simp only [List.getElem?_toArray, List.getElem?_cons_zero, List.getElem?_cons_succ] at y0 y1
        go_simp
      try simp only [List.getElem_toArray, List.getElem_cons_succ, List.getElem_cons_zero, Act.put, List.setIfInBounds_toArray, List.set_cons_zero, List.set_cons_succ]
      refine qc_take (.agg #[.int .u64 x1, .int .u64 x2]) (by rfl) (fun W hW => ?_) ?_
      · (try dsimp only at hW)
        go_simp
        exact (R1.out W).mono fun e w9 h9 => ⟨h9.1, Sn.below_next hW h9.2 hW.size⟩
      try simp only [List.getElem_toArray, List.getElem_cons_succ, List.getElem_cons_zero, Act.put, List.setIfInBounds_toArray, List.set_cons_zero, List.set_cons_succ]
      refine qc_take (.agg #[.int .u64 x1, .int .u64 x2]) (by rfl) (fun W hW => ?_) ?_
      · (try dsimp only at hW)
        go_simp
        exact (R1.out W).mono fun e w9 h9 => ⟨h9.1, Sn.below_next hW h9.2 hW.size⟩
      try simp only [List.getElem_toArray, List.getElem_cons_succ, List.getElem_cons_zero, Act.put, List.setIfInBounds_toArray, List.set_cons_zero, List.set_cons_succ]
      refine qc_take (.int .i64 a) (by rfl) (fun W hW => ?_) ?_
      · (try dsimp only at hW)
        go_simp
      try simp only [List.getElem_toArray, List.getElem_cons_succ, List.getElem_cons_zero, Act.put, List.setIfInBounds_toArray, List.set_cons_zero, List.set_cons_succ]
      refine qc_take (.agg #[.int .u64 x1, .int .u64 x2]) (by rfl) (fun W hW => ?_) ?_
      · (try dsimp only at hW)
        have y := Sn.bk_below HR0.out hW (Sn.bk_lt HR0.out)
        have y0 := Sn.bk_c y 0
        have y1 := Sn.bk_c y 1
        simp only [List.getElem?_toArray, List.getElem?_cons_zero, List.getElem?_cons_succ] at y0 y1
        go_simp
      try simp only [List.getElem_toArray, List.getElem_cons_succ, List.getElem_cons_zero, Act.put, List.setIfInBounds_toArray, List.set_cons_zero, List.set_cons_succ]
      refine qc_take (.agg #[.int .u64 x1, .int .u64 x2]) (by rfl) (fun W hW => ?_) ?_
      · (try dsimp only at hW)
        go_simp
        exact (R1.out W).mono fun e w9 h9 => ⟨h9.1, Sn.below_next hW h9.2 hW.size⟩
      try simp only [List.getElem_toArray, List.getElem_cons_succ, List.getElem_cons_zero, Act.put, List.setIfInBounds_toArray, List.set_cons_zero, List.set_cons_succ]
      refine qc_take (.bool false) (by rfl) (fun W hW => ?_) ?_
      · (try dsimp only at hW)
        go_simp
      try simp only [List.getElem_toArray, List.getElem_cons_succ, List.getElem_cons_zero, Act.put, List.setIfInBounds_toArray, List.set_cons_zero, List.set_cons_succ]
      refine qc_take (.bool false) (by rfl) (fun W hW => ?_) ?_
      · (try dsimp only at hW)
        go_simp
      try simp only [List.getElem_toArray, List.getElem_cons_succ, List.getElem_cons_zero, Act.put, List.setIfInBounds_toArray, List.set_cons_zero, List.set_cons_succ]
      refine wpQuiet_nil ?_
      intro v2 hb
      have hr0 := Sn.bk_below HR0.out hb (Sn.bk_lt HR0.out)
      have hr1 := Sn.bk_below HR1.out hb (Sn.bk_lt HR1.out)
      have hr2 := Sn.bk_below HR2.out hb (Sn.bk_lt HR2.out)
      have hB := Sn.below_next HB.out hb HB.out.size
      clear HB HR0 HR1 HR2 hb
      have HB := Lib.hid hB
      have HR0 := Lib.hid hr0
      have HR1 := Lib.hid hr1
      have HR2 := Lib.hid hr2
      clear hB hr0 hr1 hr2
      clear v
      rename World => v
      go_wp2_with fail
      refine qc_all (fun W => Below v.heap.size v W) (by kernel_rfl) (by kernel_rfl) (Below.refl _ _).drew ?_
      refine qc_take (.pointer (some ⟨w.heap.size, 0, none⟩)) (by rfl) (fun W hW => ?_) ?_
      · (try dsimp only at hW)
        go_simp
      try simp only [List.getElem_toArray, List.getElem_cons_succ, List.getElem_cons_zero, Act.put, List.setIfInBounds_toArray, List.set_cons_zero, List.set_cons_succ]
      refine qc_take (.int .u64 x1) (by rfl) (fun W hW => ?_) ?_
      · (try dsimp only at hW)
        have y := Sn.bk_below HR0.out hW (Sn.bk_lt HR0.out)
        have y0 := Sn.bk_c y 0
        have y1 := Sn.bk_c y 1
        simp only [List.getElem?_toArray, List.getElem?_cons_zero, List.getElem?_cons_succ] at y0 y1
        go_simp
      try simp only [List.getElem_toArray, List.getElem_cons_succ, List.getElem_cons_zero, Act.put, List.setIfInBounds_toArray, List.set_cons_zero, List.set_cons_succ]
      refine qc_take (.pointer (some ⟨w.heap.size, 1, none⟩)) (by rfl) (fun W hW => ?_) ?_
      · (try dsimp only at hW)
        go_simp
      try simp only [List.getElem_toArray, List.getElem_cons_succ, List.getElem_cons_zero, Act.put, List.setIfInBounds_toArray, List.set_cons_zero, List.set_cons_succ]
      refine qc_take (.int .u64 x2) (by rfl) (fun W hW => ?_) ?_
      · (try dsimp only at hW)
        have y := Sn.bk_below HR0.out hW (Sn.bk_lt HR0.out)
        have y0 := Sn.bk_c y 0
        have y1 := Sn.bk_c y 1
        simp only [List.getElem?_toArray, List.getElem?_cons_zero, List.getElem?_cons_succ] at y0 y1
        go_simp
      try simp only [List.getElem_toArray, List.getElem_cons_succ, List.getElem_cons_zero, Act.put, List.setIfInBounds_toArray, List.set_cons_zero, List.set_cons_succ]
      refine qc_take (.bool true) (by rfl) (fun W hW => ?_) ?_
      · (try dsimp only at hW)
        go_simp
      try simp only [List.getElem_toArray, List.getElem_cons_succ, List.getElem_cons_zero, Act.put, List.setIfInBounds_toArray, List.set_cons_zero, List.set_cons_succ]
      refine qc_take (.bool true) (by rfl) (fun W hW => ?_) ?_
      · (try dsimp only at hW)
        go_simp
      try simp only [List.getElem_toArray, List.getElem_cons_succ, List.getElem_cons_zero, Act.put, List.setIfInBounds_toArray, List.set_cons_zero, List.set_cons_succ]
      refine qc_take (.pointer (some ⟨w.heap.size, 1, none⟩)) (by rfl) (fun W hW => ?_) ?_
      · (try dsimp only at hW)
        go_simp
      try simp only [List.getElem_toArray, List.getElem_cons_succ, List.getElem_cons_zero, Act.put, List.setIfInBounds_toArray, List.set_cons_zero, List.set_cons_succ]
      refine qc_take (.int .u64 x2) (by rfl) (fun W hW => ?_) ?_
      · (try dsimp only at hW)
        have y := Sn.bk_below HR0.out hW (Sn.bk_lt HR0.out)
        have y0 := Sn.bk_c y 0
        have y1 := Sn.bk_c y 1
        simp only [List.getElem?_toArray, List.getElem?_cons_zero, List.getElem?_cons_succ] at y0 y1
        go_simp
      try simp only [List.getElem_toArray, List.getElem_cons_succ, List.getElem_cons_zero, Act.put, List.setIfInBounds_toArray, List.set_cons_zero, List.set_cons_succ]
      refine qc_take (.int .i64 a) (by rfl) (fun W hW => ?_) ?_
      · (try dsimp only at hW)
        go_simp
      try simp only [List.getElem_toArray, List.getElem_cons_succ, List.getElem_cons_zero, Act.put, List.setIfInBounds_toArray, List.set_cons_zero, List.set_cons_succ]
      refine qc_take (.int .u64 (Wd.msk a)) (by rfl) (fun W hW => ?_) ?_
      · (try dsimp only at hW)
        go_simp
        exact (mask_any a W).mono fun e w9 h9 => ⟨h9.1, h9.2 ▸ hW⟩
      try simp only [List.getElem_toArray, List.getElem_cons_succ, List.getElem_cons_zero, Act.put, List.setIfInBounds_toArray, List.set_cons_zero, List.set_cons_succ]
      refine qc_take (.bool true) (by rfl) (fun W hW => ?_) ?_
      · (try dsimp only at hW)
        go_simp
      try simp only [List.getElem_toArray, List.getElem_cons_succ, List.getElem_cons_zero, Act.put, List.setIfInBounds_toArray, List.set_cons_zero, List.set_cons_succ]
      refine qc_take (.bool true) (by rfl) (fun W hW => ?_) ?_
      · (try dsimp only at hW)
        go_simp
      try simp only [List.getElem_toArray, List.getElem_cons_succ, List.getElem_cons_zero, Act.put, List.setIfInBounds_toArray, List.set_cons_zero, List.set_cons_succ]
      refine wpQuiet_nil ?_
      intro v2 hb
      have hr0 := Sn.bk_below HR0.out hb (Sn.bk_lt HR0.out)
      have hr1 := Sn.bk_below HR1.out hb (Sn.bk_lt HR1.out)
      have hr2 := Sn.bk_below HR2.out hb (Sn.bk_lt HR2.out)
      have hB := Sn.below_next HB.out hb HB.out.size
      clear HB HR0 HR1 HR2 hb
      have HB := Lib.hid hB
      have HR0 := Lib.hid hr0
      have HR1 := Lib.hid hr1
      have HR2 := Lib.hid hr2
      clear hB hr0 hr1 hr2
      clear v
      rename World => v
      go_wp2_with fail
      refine qc_all (fun W => Below v.heap.size v W) (by kernel_rfl) (by kernel_rfl) (Below.refl _ _).drew ?_
      refine qc_take (.int .i64 a) (by rfl) (fun W hW => ?_) ?_
      · (try dsimp only at hW)
        go_simp
      try simp only [List.getElem_toArray, List.getElem_cons_succ, List.getElem_cons_zero, Act.put, List.setIfInBounds_toArray, List.set_cons_zero, List.set_cons_succ]
      refine qc_take (.agg #[.int .u64 x1, .int .u64 x2]) (by rfl) (fun W hW => ?_) ?_
      · (try dsimp only at hW)
        have y := Sn.bk_below HR0.out hW (Sn.bk_lt HR0.out)
        have y0 := Sn.bk_c y 0
        have y1 := Sn.bk_c y 1
        simp only [List.getElem?_toArray, List.getElem?_cons_zero, List.getElem?_cons_succ] at y0 y1
        go_simp
      try simp only [List.getElem_toArray, List.getElem_cons_succ, List.getElem_cons_zero, Act.put, List.setIfInBounds_toArray, List.set_cons_zero, List.set_cons_succ]
      refine qc_take (.agg #[.int .u64 x1, .int .u64 x2]) (by rfl) (fun W hW => ?_) ?_
      · (try dsimp only at hW)
        go_simp
        exact (R1.out W).mono fun e w9 h9 => ⟨h9.1, Sn.below_next hW h9.2 hW.size⟩
      try simp only [List.getElem_toArray, List.getElem_cons_succ, List.getElem_cons_zero, Act.put, List.setIfInBounds_toArray, List.set_cons_zero, List.set_cons_succ]
      refine qc_take (.agg #[.int .u64 x1, .int .u64 x2]) (by rfl) (fun W hW => ?_) ?_
      · (try dsimp only at hW)
        have y := Sn.bk_below HR0.out hW (Sn.bk_lt HR0.out)
        have y0 := Sn.bk_c y 0
        have y1 := Sn.bk_c y 1
        simp only [List.getElem?_toArray, List.getElem?_cons_zero, List.getElem?_cons_succ] at y0 y1
        go_simp
      try simp only [List.getElem_toArray, List.getElem_cons_succ, List.getElem_cons_zero, Act.put, List.setIfInBounds_toArray, List.set_cons_zero, List.set_cons_succ]
      refine qc_take (.bool true) (by rfl) (fun W hW => ?_) ?_
      · (try dsimp only at hW)
        go_simp
      try simp only [List.getElem_toArray, List.getElem_cons_succ, List.getElem_cons_zero, Act.put, List.setIfInBounds_toArray, List.set_cons_zero, List.set_cons_succ]
      refine qc_take (.bool true) (by rfl) (fun W hW => ?_) ?_
      · (try dsimp only at hW)
        go_simp
      try simp only [List.getElem_toArray, List.getElem_cons_succ, List.getElem_cons_zero, Act.put, List.setIfInBounds_toArray, List.set_cons_zero, List.set_cons_succ]
      refine wpQuiet_nil ?_
      intro v2 hb
      have hr0 := Sn.bk_below HR0.out hb (Sn.bk_lt HR0.out)
      have hB := Sn.below_next HB.out hb HB.out.size
      clear HB HR0 hb
      have HB := Lib.hid hB
      have HR0 := Lib.hid hr0
      clear hB hr0
      go_wp2_with fail
      go_ret
      exact ⟨rfl, HB.out⟩
    · have hR : Sn.rt a (x1, x2) = (0, Wd.msk a) := Sn.rt_bad a _ (by dsimp only; omega)
      have hR2 : Sn.rt a (0, Wd.msk a) = (0, Wd.msk a) := Sn.rt_of a _ (Sn.whole_ok a)
      have R1 : Hid (∀ W : World, Calls Try.prog 11 #[.int .i64 a, Sn.v (x1, x2)] W fun e w' => e = .returned (Sn.v (0, Wd.msk a)) ∧ Below W.heap.size W w') := Lib.hid (fun W => by
        have h := right_any a (x1, x2) W
        rw [hR] at h
        exact h)
      have R2 : Hid (∀ W : World, Calls Try.prog 11 #[.int .i64 a, Sn.v (0, Wd.msk a)] W fun e w' => e = .returned (Sn.v (0, Wd.msk a)) ∧ Below W.heap.size W w') := Lib.hid (fun W => by
        have h := right_any a (0, Wd.msk a) W
        rw [hR2] at h
        exact h)
      have C1 : Hid (∀ W : World, Calls Try.prog 13 #[.int .i64 a, Sn.v (0, Wd.msk a), .int .u64 n] W fun e w' => e = .returned (.bool true) ∧ Below W.heap.size W w') := Lib.hid (fun W => by
        have h := has_any a (0, Wd.msk a) n W
        rw [Sn.whole_has] at h
        exact h)
      obtain ⟨e1, e2⟩ := Sn.apply_whole op a (x1, x2) (y1, y2) hR
      have e3 := Sn.join_whole a (x1, x2) (y1, y2) hy.1.1 hR
      have hwu : Sn.U (0, Wd.msk a) := Sn.Ok.u (Sn.whole_ok a)
      have A1 := Lib.hid (fun W => apply_any op a (x1, x2) (y1, y2) hx hy W)
      have A2 := Lib.hid (fun W => apply_any op a (0, Wd.msk a) (y1, y2) hwu hy W)
      have A3 := Lib.hid (fun W => apply_any op a (y1, y2) (x1, x2) hy hx W)
      have A4 := Lib.hid (fun W => apply_any op a (y1, y2) (0, Wd.msk a) hy hwu W)
      have J1 : Hid (∀ W : World, Calls Try.prog 17 #[.int .i64 a, Sn.v (x1, x2), Sn.v (y1, y2)] W fun e w' => e = .returned (Sn.v (0, Wd.msk a)) ∧ Below W.heap.size W w') := Lib.hid (fun W => by
        have h := join_any a (x1, x2) (y1, y2) W
        rw [e3] at h
        exact h)
      simp only [e1] at A1
      simp only [e2] at A3
      clear e1 e2 e3 hwu
      generalize Sn.apply op a (0, Wd.msk a) (y1, y2) = r at *
      generalize Sn.apply op a (y1, y2) (0, Wd.msk a) = q at *
      obtain ⟨s1, s2⟩ := r
      obtain ⟨t1, t2⟩ := q
      clear hR hR2 hx hy
      show Calls Try.prog 6 #[.int .i64 op, .int .i64 a, .agg #[.int .u64 x1, .int .u64 x2], .agg #[.int .u64 y1, .int .u64 y2], .int .u64 n] w _
      go_enter Try.func6, Try.ntmps6
      go_upto_region 1 with (fail)
      have hB : Below w.heap.size w ((w.alloc (.cells #[.int .u64 x1, .int .u64 x2] 24)).alloc (.cells #[.int .u64 y1, .int .u64 y2] 24)) := (((Below.refl _ _).alloc (Nat.le_refl _) _).alloc (by simp) _)
      have hr0 : Sn.Bk ((w.alloc (.cells #[.int .u64 x1, .int .u64 x2] 24)).alloc (.cells #[.int .u64 y1, .int .u64 y2] 24)) (w.heap.size) 24 #[.int .u64 x1, .int .u64 x2] := Sn.bk_old (Sn.bk_new _ _ _) _
      have hr1 : Sn.Bk ((w.alloc (.cells #[.int .u64 x1, .int .u64 x2] 24)).alloc (.cells #[.int .u64 y1, .int .u64 y2] 24)) (w.heap.size + 1) 24 #[.int .u64 y1, .int .u64 y2] := Sn.bk_at (by simp)
      generalize ((w.alloc (.cells #[.int .u64 x1, .int .u64 x2] 24)).alloc (.cells #[.int .u64 y1, .int .u64 y2] 24)) = v at *
      have HB := Lib.hid hB
      have HR0 := Lib.hid hr0
      have HR1 := Lib.hid hr1
      clear hB hr0 hr1
      go_wp2_with fail
      refine (sn_awake v).mono ?_
      rintro e v2 ⟨rfl, hb⟩
      have hr0 := Sn.bk_below HR0.out hb (Sn.bk_lt HR0.out)
      have hr1 := Sn.bk_below HR1.out hb (Sn.bk_lt HR1.out)
      have hB := Sn.below_next HB.out hb HB.out.size
      clear HB HR0 HR1 hb
      have HB := Lib.hid hB
      have HR0 := Lib.hid hr0
      have HR1 := Lib.hid hr1
      clear hB hr0 hr1
      clear v
      rename World => v
      go_wp2_with (go_at_call 21; refine (mask_any _ _).mono ?_; rintro e w9 ⟨rfl, rfl⟩)
      rename World => v
      have hB : Below w.heap.size w (v.alloc (.cells #[.int .u64 0, .int .u64 (Wd.msk a)] 24)) := (HB.out).alloc (by exact HB.out.size) _
      have hr0 : Sn.Bk (v.alloc (.cells #[.int .u64 0, .int .u64 (Wd.msk a)] 24)) (w.heap.size) 24 #[.int .u64 x1, .int .u64 x2] := Sn.bk_old (HR0.out) _
      have hr1 : Sn.Bk (v.alloc (.cells #[.int .u64 0, .int .u64 (Wd.msk a)] 24)) (w.heap.size + 1) 24 #[.int .u64 y1, .int .u64 y2] := Sn.bk_old (HR1.out) _
      have hr2 : Sn.Bk (v.alloc (.cells #[.int .u64 0, .int .u64 (Wd.msk a)] 24)) (v.heap.size) 24 #[.int .u64 0, .int .u64 (Wd.msk a)] := Sn.bk_new _ _ _
      clear HB HR0 HR1
      generalize (v.alloc (.cells #[.int .u64 0, .int .u64 (Wd.msk a)] 24)) = u at *
      generalize v.heap.size = b3 at *
      clear v
      rename World => v
      have HB := Lib.hid hB
      have HR0 := Lib.hid hr0
      have HR1 := Lib.hid hr1
      have HR2 := Lib.hid hr2
      clear hB hr0 hr1 hr2
      refine qc_all (fun W => Below v.heap.size v W) (by kernel_rfl) (by kernel_rfl) (Below.refl _ _).drew ?_
      refine qc_take (.int .i64 a) (by rfl) (fun W hW => ?_) ?_
      · (try dsimp only at hW)
        go_simp
      try simp only [List.getElem_toArray, List.getElem_cons_succ, List.getElem_cons_zero, Act.put, List.setIfInBounds_toArray, List.set_cons_zero, List.set_cons_succ]
      refine qc_take (.agg #[.int .u64 0, .int .u64 (Wd.msk a)]) (by rfl) (fun W hW => ?_) ?_
      · (try dsimp only at hW)
        have y := Sn.bk_below HR2.out hW (Sn.bk_lt HR2.out)
        have y0 := Sn.bk_c y 0
        have y1 := Sn.bk_c y 1
        simp only [List.getElem?_toArray, List.getElem?_cons_zero, List.getElem?_cons_succ] at y0 y1
        go_simp
      try simp only [List.getElem_toArray, List.getElem_cons_succ, List.getElem_cons_zero, Act.put, List.setIfInBounds_toArray, List.set_cons_zero, List.set_cons_succ]
      refine qc_take (.int .u64 n) (by rfl) (fun W hW => ?_) ?_
      · (try dsimp only at hW)
        go_simp
      try simp only [List.getElem_toArray, List.getElem_cons_succ, List.getElem_cons_zero, Act.put, List.setIfInBounds_toArray, List.set_cons_zero, List.set_cons_succ]
      refine qc_take (.bool true) (by rfl) (fun W hW => ?_) ?_
      · (try dsimp only at hW)
        go_simp
        exact (C1.out W).mono fun e w9 h9 => ⟨h9.1, Sn.below_next hW h9.2 hW.size⟩
      try simp only [List.getElem_toArray, List.getElem_cons_succ, List.getElem_cons_zero, Act.put, List.setIfInBounds_toArray, List.set_cons_zero, List.set_cons_succ]
      refine qc_take (.bool false) (by rfl) (fun W hW => ?_) ?_
      · (try dsimp only at hW)
        go_simp
      try simp only [List.getElem_toArray, List.getElem_cons_succ, List.getElem_cons_zero, Act.put, List.setIfInBounds_toArray, List.set_cons_zero, List.set_cons_succ]
      refine qc_take (.bool false) (by rfl) (fun W hW => ?_) ?_
      · (try dsimp only at hW)
        go_simp
      try simp only [List.getElem_toArray, List.getElem_cons_succ, List.getElem_cons_zero, Act.put, List.setIfInBounds_toArray, List.set_cons_zero, List.set_cons_succ]
      refine qc_take (.int .i64 a) (by rfl) (fun W hW => ?_) ?_
      · (try dsimp only at hW)
        go_simp
      try simp only [List.getElem_toArray, List.getElem_cons_succ, List.getElem_cons_zero, Act.put, List.setIfInBounds_toArray, List.set_cons_zero, List.set_cons_succ]
      refine qc_take (.int .i64 a) (by rfl) (fun W hW => ?_) ?_
      · (try dsimp only at hW)
        go_simp
      try simp only [List.getElem_toArray, List.getElem_cons_succ, List.getElem_cons_zero, Act.put, List.setIfInBounds_toArray, List.set_cons_zero, List.set_cons_succ]
      refine qc_take (.agg #[.int .u64 x1, .int .u64 x2]) (by rfl) (fun W hW => ?_) ?_
      · (try dsimp only at hW)
        have y := Sn.bk_below HR0.out hW (Sn.bk_lt HR0.out)
        have y0 := Sn.bk_c y 0
        have y1 := Sn.bk_c y 1
        simp only [List.getElem?_toArray, List.getElem?_cons_zero, List.getElem?_cons_succ] at y0 y1
        go_simp
      try simp only [List.getElem_toArray, List.getElem_cons_succ, List.getElem_cons_zero, Act.put, List.setIfInBounds_toArray, List.set_cons_zero, List.set_cons_succ]
      refine qc_take (.agg #[.int .u64 0, .int .u64 (Wd.msk a)]) (by rfl) (fun W hW => ?_) ?_
      · (try dsimp only at hW)
        go_simp
        exact (R1.out W).mono fun e w9 h9 => ⟨h9.1, Sn.below_next hW h9.2 hW.size⟩
      try simp only [List.getElem_toArray, List.getElem_cons_succ, List.getElem_cons_zero, Act.put, List.setIfInBounds_toArray, List.set_cons_zero, List.set_cons_succ]
      refine qc_take (.agg #[.int .u64 0, .int .u64 (Wd.msk a)]) (by rfl) (fun W hW => ?_) ?_
      · (try dsimp only at hW)
        go_simp
        exact (R2.out W).mono fun e w9 h9 => ⟨h9.1, Sn.below_next hW h9.2 hW.size⟩
      try simp only [List.getElem_toArray, List.getElem_cons_succ, List.getElem_cons_zero, Act.put, List.setIfInBounds_toArray, List.set_cons_zero, List.set_cons_succ]
      refine qc_take (.int .i64 a) (by rfl) (fun W hW => ?_) ?_
      · (try dsimp only at hW)
        go_simp
      try simp only [List.getElem_toArray, List.getElem_cons_succ, List.getElem_cons_zero, Act.put, List.setIfInBounds_toArray, List.set_cons_zero, List.set_cons_succ]
      refine qc_take (.agg #[.int .u64 x1, .int .u64 x2]) (by rfl) (fun W hW => ?_) ?_
      · (try dsimp only at hW)
        have y := Sn.bk_below HR0.out hW (Sn.bk_lt HR0.out)
        have y0 := Sn.bk_c y 0
        have y1 := Sn.bk_c y 1
        simp only [List.getElem?_toArray, List.getElem?_cons_zero, List.getElem?_cons_succ] at y0 y1
        go_simp
      try simp only [List.getElem_toArray, List.getElem_cons_succ, List.getElem_cons_zero, Act.put, List.setIfInBounds_toArray, List.set_cons_zero, List.set_cons_succ]
      refine qc_take (.agg #[.int .u64 0, .int .u64 (Wd.msk a)]) (by rfl) (fun W hW => ?_) ?_
      · (try dsimp only at hW)
        go_simp
        exact (R1.out W).mono fun e w9 h9 => ⟨h9.1, Sn.below_next hW h9.2 hW.size⟩
      try simp only [List.getElem_toArray, List.getElem_cons_succ, List.getElem_cons_zero, Act.put, List.setIfInBounds_toArray, List.set_cons_zero, List.set_cons_succ]
      refine qc_take (.bool false) (by rfl) (fun W hW => ?_) ?_
      · (try dsimp only at hW)
        go_simp
      try simp only [List.getElem_toArray, List.getElem_cons_succ, List.getElem_cons_zero, Act.put, List.setIfInBounds_toArray, List.set_cons_zero, List.set_cons_succ]
      refine qc_take (.bool false) (by rfl) (fun W hW => ?_) ?_
      · (try dsimp only at hW)
        go_simp
      try simp only [List.getElem_toArray, List.getElem_cons_succ, List.getElem_cons_zero, Act.put, List.setIfInBounds_toArray, List.set_cons_zero, List.set_cons_succ]
      refine wpQuiet_nil ?_
      intro v2 hb
      have hr0 := Sn.bk_below HR0.out hb (Sn.bk_lt HR0.out)
      have hr1 := Sn.bk_below HR1.out hb (Sn.bk_lt HR1.out)
      have hr2 := Sn.bk_below HR2.out hb (Sn.bk_lt HR2.out)
      have hB := Sn.below_next HB.out hb HB.out.size
      clear HB HR0 HR1 HR2 hb
      have HB := Lib.hid hB
      have HR0 := Lib.hid hr0
      have HR1 := Lib.hid hr1
      have HR2 := Lib.hid hr2
      clear hB hr0 hr1 hr2
      clear v
      rename World => v
      go_wp2_with fail
      refine qc_all (fun W => Below v.heap.size v W) (by kernel_rfl) (by kernel_rfl) (Below.refl _ _).drew ?_
      refine qc_take (.pointer (some ⟨w.heap.size, 0, none⟩)) (by rfl) (fun W hW => ?_) ?_
      · (try dsimp only at hW)
        go_simp
      try simp only [List.getElem_toArray, List.getElem_cons_succ, List.getElem_cons_zero, Act.put, List.setIfInBounds_toArray, List.set_cons_zero, List.set_cons_succ]
      refine qc_take (.int .u64 x1) (by rfl) (fun W hW => ?_) ?_
      · (try dsimp only at hW)
        have y := Sn.bk_below HR0.out hW (Sn.bk_lt HR0.out)
        have y0 := Sn.bk_c y 0
        have y1 := Sn.bk_c y 1
        simp only [List.getElem?_toArray, List.getElem?_cons_zero, List.getElem?_cons_succ] at y0 y1
        go_simp
      try simp only [List.getElem_toArray, List.getElem_cons_succ, List.getElem_cons_zero, Act.put, List.setIfInBounds_toArray, List.set_cons_zero, List.set_cons_succ]
      refine qc_take (.pointer (some ⟨w.heap.size, 1, none⟩)) (by rfl) (fun W hW => ?_) ?_
      · (try dsimp only at hW)
        go_simp
      try simp only [List.getElem_toArray, List.getElem_cons_succ, List.getElem_cons_zero, Act.put, List.setIfInBounds_toArray, List.set_cons_zero, List.set_cons_succ]
      refine qc_take (.int .u64 x2) (by rfl) (fun W hW => ?_) ?_
      · (try dsimp only at hW)
        have y := Sn.bk_below HR0.out hW (Sn.bk_lt HR0.out)
        have y0 := Sn.bk_c y 0
        have y1 := Sn.bk_c y 1
        simp only [List.getElem?_toArray, List.getElem?_cons_zero, List.getElem?_cons_succ] at y0 y1
        go_simp
      try simp only [List.getElem_toArray, List.getElem_cons_succ, List.getElem_cons_zero, Act.put, List.setIfInBounds_toArray, List.set_cons_zero, List.set_cons_succ]
      refine qc_take (.bool true) (by rfl) (fun W hW => ?_) ?_
      · (try dsimp only at hW)
        go_simp
      try simp only [List.getElem_toArray, List.getElem_cons_succ, List.getElem_cons_zero, Act.put, List.setIfInBounds_toArray, List.set_cons_zero, List.set_cons_succ]
      refine qc_take (.bool true) (by rfl) (fun W hW => ?_) ?_
      · (try dsimp only at hW)
        go_simp
      try simp only [List.getElem_toArray, List.getElem_cons_succ, List.getElem_cons_zero, Act.put, List.setIfInBounds_toArray, List.set_cons_zero, List.set_cons_succ]
      refine qc_take (.pointer (some ⟨w.heap.size, 1, none⟩)) (by rfl) (fun W hW => ?_) ?_
      · (try dsimp only at hW)
        go_simp
      try simp only [List.getElem_toArray, List.getElem_cons_succ, List.getElem_cons_zero, Act.put, List.setIfInBounds_toArray, List.set_cons_zero, List.set_cons_succ]
      refine qc_take (.int .u64 x2) (by rfl) (fun W hW => ?_) ?_
      · (try dsimp only at hW)
        have y := Sn.bk_below HR0.out hW (Sn.bk_lt HR0.out)
        have y0 := Sn.bk_c y 0
        have y1 := Sn.bk_c y 1
        simp only [List.getElem?_toArray, List.getElem?_cons_zero, List.getElem?_cons_succ] at y0 y1
        go_simp
      try simp only [List.getElem_toArray, List.getElem_cons_succ, List.getElem_cons_zero, Act.put, List.setIfInBounds_toArray, List.set_cons_zero, List.set_cons_succ]
      refine qc_take (.int .i64 a) (by rfl) (fun W hW => ?_) ?_
      · (try dsimp only at hW)
        go_simp
      try simp only [List.getElem_toArray, List.getElem_cons_succ, List.getElem_cons_zero, Act.put, List.setIfInBounds_toArray, List.set_cons_zero, List.set_cons_succ]
      refine qc_take (.int .u64 (Wd.msk a)) (by rfl) (fun W hW => ?_) ?_
      · (try dsimp only at hW)
        go_simp
        exact (mask_any a W).mono fun e w9 h9 => ⟨h9.1, h9.2 ▸ hW⟩
      try simp only [List.getElem_toArray, List.getElem_cons_succ, List.getElem_cons_zero, Act.put, List.setIfInBounds_toArray, List.set_cons_zero, List.set_cons_succ]
      refine qc_take (.bool false) (by rfl) (fun W hW => ?_) ?_
      · (try dsimp only at hW)
        go_simp
      try simp only [List.getElem_toArray, List.getElem_cons_succ, List.getElem_cons_zero, Act.put, List.setIfInBounds_toArray, List.set_cons_zero, List.set_cons_succ]
      refine qc_take (.bool false) (by rfl) (fun W hW => ?_) ?_
      · (try dsimp only at hW)
        go_simp
      try simp only [List.getElem_toArray, List.getElem_cons_succ, List.getElem_cons_zero, Act.put, List.setIfInBounds_toArray, List.set_cons_zero, List.set_cons_succ]
      refine wpQuiet_nil ?_
      intro v2 hb
      have hr0 := Sn.bk_below HR0.out hb (Sn.bk_lt HR0.out)
      have hr1 := Sn.bk_below HR1.out hb (Sn.bk_lt HR1.out)
      have hr2 := Sn.bk_below HR2.out hb (Sn.bk_lt HR2.out)
      have hB := Sn.below_next HB.out hb HB.out.size
      clear HB HR0 HR1 HR2 hb
      have HB := Lib.hid hB
      have HR0 := Lib.hid hr0
      have HR1 := Lib.hid hr1
      have HR2 := Lib.hid hr2
      clear hB hr0 hr1 hr2
      clear v
      rename World => v
      go_wp2_with fail
      refine qc_all (fun W => Below v.heap.size v W) (by kernel_rfl) (by kernel_rfl) (Below.refl _ _).drew ?_
      refine qc_take (.int .i64 a) (by rfl) (fun W hW => ?_) ?_
      · (try dsimp only at hW)
        go_simp
      try simp only [List.getElem_toArray, List.getElem_cons_succ, List.getElem_cons_zero, Act.put, List.setIfInBounds_toArray, List.set_cons_zero, List.set_cons_succ]
      refine qc_take (.agg #[.int .u64 x1, .int .u64 x2]) (by rfl) (fun W hW => ?_) ?_
      · (try dsimp only at hW)
        have y := Sn.bk_below HR0.out hW (Sn.bk_lt HR0.out)
        have y0 := Sn.bk_c y 0
        have y1 := Sn.bk_c y 1
        simp only [List.getElem?_toArray, List.getElem?_cons_zero, List.getElem?_cons_succ] at y0 y1
        go_simp
      try simp only [List.getElem_toArray, List.getElem_cons_succ, List.getElem_cons_zero, Act.put, List.setIfInBounds_toArray, List.set_cons_zero, List.set_cons_succ]
      refine qc_take (.agg #[.int .u64 0, .int .u64 (Wd.msk a)]) (by rfl) (fun W hW => ?_) ?_
      · (try dsimp only at hW)
        go_simp
        exact (R1.out W).mono fun e w9 h9 => ⟨h9.1, Sn.below_next hW h9.2 hW.size⟩
      try simp only [List.getElem_toArray, List.getElem_cons_succ, List.getElem_cons_zero, Act.put, List.setIfInBounds_toArray, List.set_cons_zero, List.set_cons_succ]
      refine qc_take (.agg #[.int .u64 0, .int .u64 (Wd.msk a)]) (by rfl) (fun W hW => ?_) ?_
      · (try dsimp only at hW)
        have y := Sn.bk_below HR2.out hW (Sn.bk_lt HR2.out)
        have y0 := Sn.bk_c y 0
        have y1 := Sn.bk_c y 1
        simp only [List.getElem?_toArray, List.getElem?_cons_zero, List.getElem?_cons_succ] at y0 y1
        go_simp
      try simp only [List.getElem_toArray, List.getElem_cons_succ, List.getElem_cons_zero, Act.put, List.setIfInBounds_toArray, List.set_cons_zero, List.set_cons_succ]
      refine qc_take (.bool true) (by rfl) (fun W hW => ?_) ?_
      · (try dsimp only at hW)
        go_simp
      try simp only [List.getElem_toArray, List.getElem_cons_succ, List.getElem_cons_zero, Act.put, List.setIfInBounds_toArray, List.set_cons_zero, List.set_cons_succ]
      refine qc_take (.bool true) (by rfl) (fun W hW => ?_) ?_
      · (try dsimp only at hW)
        go_simp
      try simp only [List.getElem_toArray, List.getElem_cons_succ, List.getElem_cons_zero, Act.put, List.setIfInBounds_toArray, List.set_cons_zero, List.set_cons_succ]
      refine qc_take (.int .i64 op) (by rfl) (fun W hW => ?_) ?_
      · (try dsimp only at hW)
        go_simp
      try simp only [List.getElem_toArray, List.getElem_cons_succ, List.getElem_cons_zero, Act.put, List.setIfInBounds_toArray, List.set_cons_zero, List.set_cons_succ]
      refine qc_take (.int .i64 a) (by rfl) (fun W hW => ?_) ?_
      · (try dsimp only at hW)
        go_simp
      try simp only [List.getElem_toArray, List.getElem_cons_succ, List.getElem_cons_zero, Act.put, List.setIfInBounds_toArray, List.set_cons_zero, List.set_cons_succ]
      refine qc_take (.agg #[.int .u64 x1, .int .u64 x2]) (by rfl) (fun W hW => ?_) ?_
      · (try dsimp only at hW)
        have y := Sn.bk_below HR0.out hW (Sn.bk_lt HR0.out)
        have y0 := Sn.bk_c y 0
        have y1 := Sn.bk_c y 1
        simp only [List.getElem?_toArray, List.getElem?_cons_zero, List.getElem?_cons_succ] at y0 y1
        go_simp
      try simp only [List.getElem_toArray, List.getElem_cons_succ, List.getElem_cons_zero, Act.put, List.setIfInBounds_toArray, List.set_cons_zero, List.set_cons_succ]
      refine qc_take (.agg #[.int .u64 y1, .int .u64 y2]) (by rfl) (fun W hW => ?_) ?_
      · (try dsimp only at hW)
        have y := Sn.bk_below HR1.out hW (Sn.bk_lt HR1.out)
        have y0 := Sn.bk_c y 0
        have y1 := Sn.bk_c y 1
        simp only [List.getElem?_toArray, List.getElem?_cons_zero, List.getElem?_cons_succ] at y0 y1
        go_simp
      try simp only [List.getElem_toArray, List.getElem_cons_succ, List.getElem_cons_zero, Act.put, List.setIfInBounds_toArray, List.set_cons_zero, List.set_cons_succ]
      refine qc_take (.agg #[.int .u64 s1, .int .u64 s2]) (by rfl) (fun W hW => ?_) ?_
      · (try dsimp only at hW)
        go_simp
        exact (A1.out W).mono fun e w9 h9 => ⟨h9.1, Sn.below_next hW h9.2 hW.size⟩
      try simp only [List.getElem_toArray, List.getElem_cons_succ, List.getElem_cons_zero, Act.put, List.setIfInBounds_toArray, List.set_cons_zero, List.set_cons_succ]
      refine qc_take (.int .i64 op) (by rfl) (fun W hW => ?_) ?_
      · (try dsimp only at hW)
        go_simp
      try simp only [List.getElem_toArray, List.getElem_cons_succ, List.getElem_cons_zero, Act.put, List.setIfInBounds_toArray, List.set_cons_zero, List.set_cons_succ]
      refine qc_take (.int .i64 a) (by rfl) (fun W hW => ?_) ?_
      · (try dsimp only at hW)
        go_simp
      try simp only [List.getElem_toArray, List.getElem_cons_succ, List.getElem_cons_zero, Act.put, List.setIfInBounds_toArray, List.set_cons_zero, List.set_cons_succ]
      refine qc_take (.agg #[.int .u64 0, .int .u64 (Wd.msk a)]) (by rfl) (fun W hW => ?_) ?_
      · (try dsimp only at hW)
        have y := Sn.bk_below HR2.out hW (Sn.bk_lt HR2.out)
        have y0 := Sn.bk_c y 0
        have y1 := Sn.bk_c y 1
        simp only [List.getElem?_toArray, List.getElem?_cons_zero, List.getElem?_cons_succ] at y0 y1
        go_simp
      try simp only [List.getElem_toArray, List.getElem_cons_succ, List.getElem_cons_zero, Act.put, List.setIfInBounds_toArray, List.set_cons_zero, List.set_cons_succ]
      refine qc_take (.agg #[.int .u64 y1, .int .u64 y2]) (by rfl) (fun W hW => ?_) ?_
      · (try dsimp only at hW)
        have y := Sn.bk_below HR1.out hW (Sn.bk_lt HR1.out)
        have y0 := Sn.bk_c y 0
        have y1 := Sn.bk_c y 1
        simp only [List.getElem?_toArray, List.getElem?_cons_zero, List.getElem?_cons_succ] at y0 y1
        go_simp
      try simp only [List.getElem_toArray, List.getElem_cons_succ, List.getElem_cons_zero, Act.put, List.setIfInBounds_toArray, List.set_cons_zero, List.set_cons_succ]
      refine qc_take (.agg #[.int .u64 s1, .int .u64 s2]) (by rfl) (fun W hW => ?_) ?_
      · (try dsimp only at hW)
        go_simp
        exact (A2.out W).mono fun e w9 h9 => ⟨h9.1, Sn.below_next hW h9.2 hW.size⟩
      try simp only [List.getElem_toArray, List.getElem_cons_succ, List.getElem_cons_zero, Act.put, List.setIfInBounds_toArray, List.set_cons_zero, List.set_cons_succ]
      refine qc_take (.bool true) (by rfl) (fun W hW => ?_) ?_
      · (try dsimp only at hW)
        go_simp
      try simp only [List.getElem_toArray, List.getElem_cons_succ, List.getElem_cons_zero, Act.put, List.setIfInBounds_toArray, List.set_cons_zero, List.set_cons_succ]
      refine qc_take (.bool true) (by rfl) (fun W hW => ?_) ?_
      · (try dsimp only at hW)
        go_simp
      try simp only [List.getElem_toArray, List.getElem_cons_succ, List.getElem_cons_zero, Act.put, List.setIfInBounds_toArray, List.set_cons_zero, List.set_cons_succ]
      refine qc_take (.bool true) (by rfl) (fun W hW => ?_) ?_
      · (try dsimp only at hW)
        go_simp
      try simp only [List.getElem_toArray, List.getElem_cons_succ, List.getElem_cons_zero, Act.put, List.setIfInBounds_toArray, List.set_cons_zero, List.set_cons_succ]
      refine qc_take (.int .i64 op) (by rfl) (fun W hW => ?_) ?_
      · (try dsimp only at hW)
        go_simp
      try simp only [List.getElem_toArray, List.getElem_cons_succ, List.getElem_cons_zero, Act.put, List.setIfInBounds_toArray, List.set_cons_zero, List.set_cons_succ]
      refine qc_take (.int .i64 a) (by rfl) (fun W hW => ?_) ?_
      · (try dsimp only at hW)
        go_simp
      try simp only [List.getElem_toArray, List.getElem_cons_succ, List.getElem_cons_zero, Act.put, List.setIfInBounds_toArray, List.set_cons_zero, List.set_cons_succ]
      refine qc_take (.agg #[.int .u64 y1, .int .u64 y2]) (by rfl) (fun W hW => ?_) ?_
      · (try dsimp only at hW)
        have y := Sn.bk_below HR1.out hW (Sn.bk_lt HR1.out)
        have y0 := Sn.bk_c y 0
        have y1 := Sn.bk_c y 1
        simp only [List.getElem?_toArray, List.getElem?_cons_zero, List.getElem?_cons_succ] at y0 y1
        go_simp
      try simp only [List.getElem_toArray, List.getElem_cons_succ, List.getElem_cons_zero, Act.put, List.setIfInBounds_toArray, List.set_cons_zero, List.set_cons_succ]
      refine qc_take (.agg #[.int .u64 x1, .int .u64 x2]) (by rfl) (fun W hW => ?_) ?_
      · (try dsimp only at hW)
        have y := Sn.bk_below HR0.out hW (Sn.bk_lt HR0.out)
        have y0 := Sn.bk_c y 0
        have y1 := Sn.bk_c y 1
        simp only [List.getElem?_toArray, List.getElem?_cons_zero, List.getElem?_cons_succ] at y0 y1
        go_simp
      try simp only [List.getElem_toArray, List.getElem_cons_succ, List.getElem_cons_zero, Act.put, List.setIfInBounds_toArray, List.set_cons_zero, List.set_cons_succ]
      refine qc_take (.agg #[.int .u64 t1, .int .u64 t2]) (by rfl) (fun W hW => ?_) ?_
      · (try dsimp only at hW)
        go_simp
        exact (A3.out W).mono fun e w9 h9 => ⟨h9.1, Sn.below_next hW h9.2 hW.size⟩
      try simp only [List.getElem_toArray, List.getElem_cons_succ, List.getElem_cons_zero, Act.put, List.setIfInBounds_toArray, List.set_cons_zero, List.set_cons_succ]
      refine qc_take (.int .i64 op) (by rfl) (fun W hW => ?_) ?_
      · (try dsimp only at hW)
        go_simp
      try simp only [List.getElem_toArray, List.getElem_cons_succ, List.getElem_cons_zero, Act.put, List.setIfInBounds_toArray, List.set_cons_zero, List.set_cons_succ]
      refine qc_take (.int .i64 a) (by rfl) (fun W hW => ?_) ?_
      · (try dsimp only at hW)
        go_simp
      try simp only [List.getElem_toArray, List.getElem_cons_succ, List.getElem_cons_zero, Act.put, List.setIfInBounds_toArray, List.set_cons_zero, List.set_cons_succ]
      refine qc_take (.agg #[.int .u64 y1, .int .u64 y2]) (by rfl) (fun W hW => ?_) ?_
      · (try dsimp only at hW)
        have y := Sn.bk_below HR1.out hW (Sn.bk_lt HR1.out)
        have y0 := Sn.bk_c y 0
        have y1 := Sn.bk_c y 1
        simp only [List.getElem?_toArray, List.getElem?_cons_zero, List.getElem?_cons_succ] at y0 y1
        go_simp
      try simp only [List.getElem_toArray, List.getElem_cons_succ, List.getElem_cons_zero, Act.put, List.setIfInBounds_toArray, List.set_cons_zero, List.set_cons_succ]
      refine qc_take (.agg #[.int .u64 0, .int .u64 (Wd.msk a)]) (by rfl) (fun W hW => ?_) ?_
      · (try dsimp only at hW)
        have y := Sn.bk_below HR2.out hW (Sn.bk_lt HR2.out)
        have y0 := Sn.bk_c y 0
        have y1 := Sn.bk_c y 1
        simp only [List.getElem?_toArray, List.getElem?_cons_zero, List.getElem?_cons_succ] at y0 y1
        go_simp
      try simp only [List.getElem_toArray, List.getElem_cons_succ, List.getElem_cons_zero, Act.put, List.setIfInBounds_toArray, List.set_cons_zero, List.set_cons_succ]
      refine qc_take (.agg #[.int .u64 t1, .int .u64 t2]) (by rfl) (fun W hW => ?_) ?_
      · (try dsimp only at hW)
        go_simp
        exact (A4.out W).mono fun e w9 h9 => ⟨h9.1, Sn.below_next hW h9.2 hW.size⟩
      try simp only [List.getElem_toArray, List.getElem_cons_succ, List.getElem_cons_zero, Act.put, List.setIfInBounds_toArray, List.set_cons_zero, List.set_cons_succ]
      refine qc_take (.bool true) (by rfl) (fun W hW => ?_) ?_
      · (try dsimp only at hW)
        go_simp
      try simp only [List.getElem_toArray, List.getElem_cons_succ, List.getElem_cons_zero, Act.put, List.setIfInBounds_toArray, List.set_cons_zero, List.set_cons_succ]
      refine qc_take (.bool true) (by rfl) (fun W hW => ?_) ?_
      · (try dsimp only at hW)
        go_simp
      try simp only [List.getElem_toArray, List.getElem_cons_succ, List.getElem_cons_zero, Act.put, List.setIfInBounds_toArray, List.set_cons_zero, List.set_cons_succ]
      refine qc_take (.bool true) (by rfl) (fun W hW => ?_) ?_
      · (try dsimp only at hW)
        go_simp
      try simp only [List.getElem_toArray, List.getElem_cons_succ, List.getElem_cons_zero, Act.put, List.setIfInBounds_toArray, List.set_cons_zero, List.set_cons_succ]
      refine qc_take (.int .i64 a) (by rfl) (fun W hW => ?_) ?_
      · (try dsimp only at hW)
        go_simp
      try simp only [List.getElem_toArray, List.getElem_cons_succ, List.getElem_cons_zero, Act.put, List.setIfInBounds_toArray, List.set_cons_zero, List.set_cons_succ]
      refine qc_take (.agg #[.int .u64 x1, .int .u64 x2]) (by rfl) (fun W hW => ?_) ?_
      · (try dsimp only at hW)
        have y := Sn.bk_below HR0.out hW (Sn.bk_lt HR0.out)
        have y0 := Sn.bk_c y 0
        have y1 := Sn.bk_c y 1
        simp only [List.getElem?_toArray, List.getElem?_cons_zero, List.getElem?_cons_succ] at y0 y1
        go_simp
      try simp only [List.getElem_toArray, List.getElem_cons_succ, List.getElem_cons_zero, Act.put, List.setIfInBounds_toArray, List.set_cons_zero, List.set_cons_succ]
      refine qc_take (.agg #[.int .u64 y1, .int .u64 y2]) (by rfl) (fun W hW => ?_) ?_
      · (try dsimp only at hW)
        have y := Sn.bk_below HR1.out hW (Sn.bk_lt HR1.out)
        have y0 := Sn.bk_c y 0
        have y1 := Sn.bk_c y 1
        simp only [List.getElem?_toArray, List.getElem?_cons_zero, List.getElem?_cons_succ] at y0 y1
        go_simp
      try simp only [List.getElem_toArray, List.getElem_cons_succ, List.getElem_cons_zero, Act.put, List.setIfInBounds_toArray, List.set_cons_zero, List.set_cons_succ]
      refine qc_take (.agg #[.int .u64 0, .int .u64 (Wd.msk a)]) (by rfl) (fun W hW => ?_) ?_
      · (try dsimp only at hW)
        go_simp
        exact (J1.out W).mono fun e w9 h9 => ⟨h9.1, Sn.below_next hW h9.2 hW.size⟩
      try simp only [List.getElem_toArray, List.getElem_cons_succ, List.getElem_cons_zero, Act.put, List.setIfInBounds_toArray, List.set_cons_zero, List.set_cons_succ]
      refine qc_take (.agg #[.int .u64 0, .int .u64 (Wd.msk a)]) (by rfl) (fun W hW => ?_) ?_
      · (try dsimp only at hW)
        have y := Sn.bk_below HR2.out hW (Sn.bk_lt HR2.out)
        have y0 := Sn.bk_c y 0
        have y1 := Sn.bk_c y 1
        simp only [List.getElem?_toArray, List.getElem?_cons_zero, List.getElem?_cons_succ] at y0 y1
        go_simp
      try simp only [List.getElem_toArray, List.getElem_cons_succ, List.getElem_cons_zero, Act.put, List.setIfInBounds_toArray, List.set_cons_zero, List.set_cons_succ]
      refine qc_take (.bool true) (by rfl) (fun W hW => ?_) ?_
      · (try dsimp only at hW)
        go_simp
      try simp only [List.getElem_toArray, List.getElem_cons_succ, List.getElem_cons_zero, Act.put, List.setIfInBounds_toArray, List.set_cons_zero, List.set_cons_succ]
      refine qc_take (.bool true) (by rfl) (fun W hW => ?_) ?_
      · (try dsimp only at hW)
        go_simp
      try simp only [List.getElem_toArray, List.getElem_cons_succ, List.getElem_cons_zero, Act.put, List.setIfInBounds_toArray, List.set_cons_zero, List.set_cons_succ]
      refine qc_take (.bool true) (by rfl) (fun W hW => ?_) ?_
      · (try dsimp only at hW)
        go_simp
      try simp only [List.getElem_toArray, List.getElem_cons_succ, List.getElem_cons_zero, Act.put, List.setIfInBounds_toArray, List.set_cons_zero, List.set_cons_succ]
      refine wpQuiet_nil ?_
      intro v2 hb
      have hr0 := Sn.bk_below HR0.out hb (Sn.bk_lt HR0.out)
      have hB := Sn.below_next HB.out hb HB.out.size
      clear HB HR0 hb
      have HB := Lib.hid hB
      have HR0 := Lib.hid hr0
      clear hB hr0
      go_wp2_with fail
      go_ret
      exact ⟨rfl, HB.out⟩
  · have hR : Sn.rt a (x1, x2) = (0, Wd.msk a) := Sn.rt_bad a _ (by dsimp only; omega)
    have hR2 : Sn.rt a (0, Wd.msk a) = (0, Wd.msk a) := Sn.rt_of a _ (Sn.whole_ok a)
    have R1 : Hid (∀ W : World, Calls Try.prog 11 #[.int .i64 a, Sn.v (x1, x2)] W fun e w' => e = .returned (Sn.v (0, Wd.msk a)) ∧ Below W.heap.size W w') := Lib.hid (fun W => by
      have h := right_any a (x1, x2) W
      rw [hR] at h
      exact h)
    have R2 : Hid (∀ W : World, Calls Try.prog 11 #[.int .i64 a, Sn.v (0, Wd.msk a)] W fun e w' => e = .returned (Sn.v (0, Wd.msk a)) ∧ Below W.heap.size W w') := Lib.hid (fun W => by
      have h := right_any a (0, Wd.msk a) W
      rw [hR2] at h
      exact h)
    have C1 : Hid (∀ W : World, Calls Try.prog 13 #[.int .i64 a, Sn.v (0, Wd.msk a), .int .u64 n] W fun e w' => e = .returned (.bool true) ∧ Below W.heap.size W w') := Lib.hid (fun W => by
      have h := has_any a (0, Wd.msk a) n W
      rw [Sn.whole_has] at h
      exact h)
    obtain ⟨e1, e2⟩ := Sn.apply_whole op a (x1, x2) (y1, y2) hR
    have e3 := Sn.join_whole a (x1, x2) (y1, y2) hy.1.1 hR
    have hwu : Sn.U (0, Wd.msk a) := Sn.Ok.u (Sn.whole_ok a)
    have A1 := Lib.hid (fun W => apply_any op a (x1, x2) (y1, y2) hx hy W)
    have A2 := Lib.hid (fun W => apply_any op a (0, Wd.msk a) (y1, y2) hwu hy W)
    have A3 := Lib.hid (fun W => apply_any op a (y1, y2) (x1, x2) hy hx W)
    have A4 := Lib.hid (fun W => apply_any op a (y1, y2) (0, Wd.msk a) hy hwu W)
    have J1 : Hid (∀ W : World, Calls Try.prog 17 #[.int .i64 a, Sn.v (x1, x2), Sn.v (y1, y2)] W fun e w' => e = .returned (Sn.v (0, Wd.msk a)) ∧ Below W.heap.size W w') := Lib.hid (fun W => by
      have h := join_any a (x1, x2) (y1, y2) W
      rw [e3] at h
      exact h)
    simp only [e1] at A1
    simp only [e2] at A3
    clear e1 e2 e3 hwu
    generalize Sn.apply op a (0, Wd.msk a) (y1, y2) = r at *
    generalize Sn.apply op a (y1, y2) (0, Wd.msk a) = q at *
    obtain ⟨s1, s2⟩ := r
    obtain ⟨t1, t2⟩ := q
    clear hR hR2 hx hy
    show Calls Try.prog 6 #[.int .i64 op, .int .i64 a, .agg #[.int .u64 x1, .int .u64 x2], .agg #[.int .u64 y1, .int .u64 y2], .int .u64 n] w _
    go_enter Try.func6, Try.ntmps6
    go_upto_region 1 with (fail)
    have hB : Below w.heap.size w ((w.alloc (.cells #[.int .u64 x1, .int .u64 x2] 24)).alloc (.cells #[.int .u64 y1, .int .u64 y2] 24)) := (((Below.refl _ _).alloc (Nat.le_refl _) _).alloc (by simp) _)
    have hr0 : Sn.Bk ((w.alloc (.cells #[.int .u64 x1, .int .u64 x2] 24)).alloc (.cells #[.int .u64 y1, .int .u64 y2] 24)) (w.heap.size) 24 #[.int .u64 x1, .int .u64 x2] := Sn.bk_old (Sn.bk_new _ _ _) _
    have hr1 : Sn.Bk ((w.alloc (.cells #[.int .u64 x1, .int .u64 x2] 24)).alloc (.cells #[.int .u64 y1, .int .u64 y2] 24)) (w.heap.size + 1) 24 #[.int .u64 y1, .int .u64 y2] := Sn.bk_at (by simp)
    generalize ((w.alloc (.cells #[.int .u64 x1, .int .u64 x2] 24)).alloc (.cells #[.int .u64 y1, .int .u64 y2] 24)) = v at *
    have HB := Lib.hid hB
    have HR0 := Lib.hid hr0
    have HR1 := Lib.hid hr1
    clear hB hr0 hr1
    go_wp2_with fail
    refine (sn_awake v).mono ?_
    rintro e v2 ⟨rfl, hb⟩
    have hr0 := Sn.bk_below HR0.out hb (Sn.bk_lt HR0.out)
    have hr1 := Sn.bk_below HR1.out hb (Sn.bk_lt HR1.out)
    have hB := Sn.below_next HB.out hb HB.out.size
    clear HB HR0 HR1 hb
    have HB := Lib.hid hB
    have HR0 := Lib.hid hr0
    have HR1 := Lib.hid hr1
    clear hB hr0 hr1
    clear v
    rename World => v
    go_wp2_with (go_at_call 21; refine (mask_any _ _).mono ?_; rintro e w9 ⟨rfl, rfl⟩)
    rename World => v
    have hB : Below w.heap.size w (v.alloc (.cells #[.int .u64 0, .int .u64 (Wd.msk a)] 24)) := (HB.out).alloc (by exact HB.out.size) _
    have hr0 : Sn.Bk (v.alloc (.cells #[.int .u64 0, .int .u64 (Wd.msk a)] 24)) (w.heap.size) 24 #[.int .u64 x1, .int .u64 x2] := Sn.bk_old (HR0.out) _
    have hr1 : Sn.Bk (v.alloc (.cells #[.int .u64 0, .int .u64 (Wd.msk a)] 24)) (w.heap.size + 1) 24 #[.int .u64 y1, .int .u64 y2] := Sn.bk_old (HR1.out) _
    have hr2 : Sn.Bk (v.alloc (.cells #[.int .u64 0, .int .u64 (Wd.msk a)] 24)) (v.heap.size) 24 #[.int .u64 0, .int .u64 (Wd.msk a)] := Sn.bk_new _ _ _
    clear HB HR0 HR1
    generalize (v.alloc (.cells #[.int .u64 0, .int .u64 (Wd.msk a)] 24)) = u at *
    generalize v.heap.size = b3 at *
    clear v
    rename World => v
    have HB := Lib.hid hB
    have HR0 := Lib.hid hr0
    have HR1 := Lib.hid hr1
    have HR2 := Lib.hid hr2
    clear hB hr0 hr1 hr2
    refine qc_all (fun W => Below v.heap.size v W) (by kernel_rfl) (by kernel_rfl) (Below.refl _ _).drew ?_
    refine qc_take (.int .i64 a) (by rfl) (fun W hW => ?_) ?_
    · (try dsimp only at hW)
      go_simp
    try simp only [List.getElem_toArray, List.getElem_cons_succ, List.getElem_cons_zero, Act.put, List.setIfInBounds_toArray, List.set_cons_zero, List.set_cons_succ]
    refine qc_take (.agg #[.int .u64 0, .int .u64 (Wd.msk a)]) (by rfl) (fun W hW => ?_) ?_
    · (try dsimp only at hW)
      have y := Sn.bk_below HR2.out hW (Sn.bk_lt HR2.out)
      have y0 := Sn.bk_c y 0
      have y1 := Sn.bk_c y 1
      simp only [List.getElem?_toArray, List.getElem?_cons_zero, List.getElem?_cons_succ] at y0 y1
      go_simp
    try simp only [List.getElem_toArray, List.getElem_cons_succ, List.getElem_cons_zero, Act.put, List.setIfInBounds_toArray, List.set_cons_zero, List.set_cons_succ]
    refine qc_take (.int .u64 n) (by rfl) (fun W hW => ?_) ?_
    · (try dsimp only at hW)
      go_simp
    try simp only [List.getElem_toArray, List.getElem_cons_succ, List.getElem_cons_zero, Act.put, List.setIfInBounds_toArray, List.set_cons_zero, List.set_cons_succ]
    refine qc_take (.bool true) (by rfl) (fun W hW => ?_) ?_
    · (try dsimp only at hW)
      go_simp
      exact (C1.out W).mono fun e w9 h9 => ⟨h9.1, Sn.below_next hW h9.2 hW.size⟩
    try simp only [List.getElem_toArray, List.getElem_cons_succ, List.getElem_cons_zero, Act.put, List.setIfInBounds_toArray, List.set_cons_zero, List.set_cons_succ]
    refine qc_take (.bool false) (by rfl) (fun W hW => ?_) ?_
    · (try dsimp only at hW)
      go_simp
    try simp only [List.getElem_toArray, List.getElem_cons_succ, List.getElem_cons_zero, Act.put, List.setIfInBounds_toArray, List.set_cons_zero, List.set_cons_succ]
    refine qc_take (.bool false) (by rfl) (fun W hW => ?_) ?_
    · (try dsimp only at hW)
      go_simp
    try simp only [List.getElem_toArray, List.getElem_cons_succ, List.getElem_cons_zero, Act.put, List.setIfInBounds_toArray, List.set_cons_zero, List.set_cons_succ]
    refine qc_take (.int .i64 a) (by rfl) (fun W hW => ?_) ?_
    · (try dsimp only at hW)
      go_simp
    try simp only [List.getElem_toArray, List.getElem_cons_succ, List.getElem_cons_zero, Act.put, List.setIfInBounds_toArray, List.set_cons_zero, List.set_cons_succ]
    refine qc_take (.int .i64 a) (by rfl) (fun W hW => ?_) ?_
    · (try dsimp only at hW)
      go_simp
    try simp only [List.getElem_toArray, List.getElem_cons_succ, List.getElem_cons_zero, Act.put, List.setIfInBounds_toArray, List.set_cons_zero, List.set_cons_succ]
    refine qc_take (.agg #[.int .u64 x1, .int .u64 x2]) (by rfl) (fun W hW => ?_) ?_
    · (try dsimp only at hW)
      have y := Sn.bk_below HR0.out hW (Sn.bk_lt HR0.out)
      have y0 := Sn.bk_c y 0
      have y1 := Sn.bk_c y 1
      simp only [List.getElem?_toArray, List.getElem?_cons_zero, List.getElem?_cons_succ] at y0 y1
      go_simp
    try simp only [List.getElem_toArray, List.getElem_cons_succ, List.getElem_cons_zero, Act.put, List.setIfInBounds_toArray, List.set_cons_zero, List.set_cons_succ]
    refine qc_take (.agg #[.int .u64 0, .int .u64 (Wd.msk a)]) (by rfl) (fun W hW => ?_) ?_
    · (try dsimp only at hW)
      go_simp
      exact (R1.out W).mono fun e w9 h9 => ⟨h9.1, Sn.below_next hW h9.2 hW.size⟩
    try simp only [List.getElem_toArray, List.getElem_cons_succ, List.getElem_cons_zero, Act.put, List.setIfInBounds_toArray, List.set_cons_zero, List.set_cons_succ]
    refine qc_take (.agg #[.int .u64 0, .int .u64 (Wd.msk a)]) (by rfl) (fun W hW => ?_) ?_
    · (try dsimp only at hW)
      go_simp
      exact (R2.out W).mono fun e w9 h9 => ⟨h9.1, Sn.below_next hW h9.2 hW.size⟩
    try simp only [List.getElem_toArray, List.getElem_cons_succ, List.getElem_cons_zero, Act.put, List.setIfInBounds_toArray, List.set_cons_zero, List.set_cons_succ]
    refine qc_take (.int .i64 a) (by rfl) (fun W hW => ?_) ?_
    · (try dsimp only at hW)
      go_simp
    try simp only [List.getElem_toArray, List.getElem_cons_succ, List.getElem_cons_zero, Act.put, List.setIfInBounds_toArray, List.set_cons_zero, List.set_cons_succ]
    refine qc_take (.agg #[.int .u64 x1, .int .u64 x2]) (by rfl) (fun W hW => ?_) ?_
    · (try dsimp only at hW)
      have y := Sn.bk_below HR0.out hW (Sn.bk_lt HR0.out)
      have y0 := Sn.bk_c y 0
      have y1 := Sn.bk_c y 1
      simp only [List.getElem?_toArray, List.getElem?_cons_zero, List.getElem?_cons_succ] at y0 y1
      go_simp
    try simp only [List.getElem_toArray, List.getElem_cons_succ, List.getElem_cons_zero, Act.put, List.setIfInBounds_toArray, List.set_cons_zero, List.set_cons_succ]
    refine qc_take (.agg #[.int .u64 0, .int .u64 (Wd.msk a)]) (by rfl) (fun W hW => ?_) ?_
    · (try dsimp only at hW)
      go_simp
      exact (R1.out W).mono fun e w9 h9 => ⟨h9.1, Sn.below_next hW h9.2 hW.size⟩
    try simp only [List.getElem_toArray, List.getElem_cons_succ, List.getElem_cons_zero, Act.put, List.setIfInBounds_toArray, List.set_cons_zero, List.set_cons_succ]
    refine qc_take (.bool false) (by rfl) (fun W hW => ?_) ?_
    · (try dsimp only at hW)
      go_simp
    try simp only [List.getElem_toArray, List.getElem_cons_succ, List.getElem_cons_zero, Act.put, List.setIfInBounds_toArray, List.set_cons_zero, List.set_cons_succ]
    refine qc_take (.bool false) (by rfl) (fun W hW => ?_) ?_
    · (try dsimp only at hW)
      go_simp
    try simp only [List.getElem_toArray, List.getElem_cons_succ, List.getElem_cons_zero, Act.put, List.setIfInBounds_toArray, List.set_cons_zero, List.set_cons_succ]
    refine wpQuiet_nil ?_
    intro v2 hb
    have hr0 := Sn.bk_below HR0.out hb (Sn.bk_lt HR0.out)
    have hr1 := Sn.bk_below HR1.out hb (Sn.bk_lt HR1.out)
    have hr2 := Sn.bk_below HR2.out hb (Sn.bk_lt HR2.out)
    have hB := Sn.below_next HB.out hb HB.out.size
    clear HB HR0 HR1 HR2 hb
    have HB := Lib.hid hB
    have HR0 := Lib.hid hr0
    have HR1 := Lib.hid hr1
    have HR2 := Lib.hid hr2
    clear hB hr0 hr1 hr2
    clear v
    rename World => v
    go_wp2_with fail
    refine qc_all (fun W => Below v.heap.size v W) (by kernel_rfl) (by kernel_rfl) (Below.refl _ _).drew ?_
    refine qc_take (.pointer (some ⟨w.heap.size, 0, none⟩)) (by rfl) (fun W hW => ?_) ?_
    · (try dsimp only at hW)
      go_simp
    try simp only [List.getElem_toArray, List.getElem_cons_succ, List.getElem_cons_zero, Act.put, List.setIfInBounds_toArray, List.set_cons_zero, List.set_cons_succ]
    refine qc_take (.int .u64 x1) (by rfl) (fun W hW => ?_) ?_
    · (try dsimp only at hW)
      have y := Sn.bk_below HR0.out hW (Sn.bk_lt HR0.out)
      have y0 := Sn.bk_c y 0
      have y1 := Sn.bk_c y 1
      simp only [List.getElem?_toArray, List.getElem?_cons_zero, List.getElem?_cons_succ] at y0 y1
      go_simp
    try simp only [List.getElem_toArray, List.getElem_cons_succ, List.getElem_cons_zero, Act.put, List.setIfInBounds_toArray, List.set_cons_zero, List.set_cons_succ]
    refine qc_take (.pointer (some ⟨w.heap.size, 1, none⟩)) (by rfl) (fun W hW => ?_) ?_
    · (try dsimp only at hW)
      go_simp
    try simp only [List.getElem_toArray, List.getElem_cons_succ, List.getElem_cons_zero, Act.put, List.setIfInBounds_toArray, List.set_cons_zero, List.set_cons_succ]
    refine qc_take (.int .u64 x2) (by rfl) (fun W hW => ?_) ?_
    · (try dsimp only at hW)
      have y := Sn.bk_below HR0.out hW (Sn.bk_lt HR0.out)
      have y0 := Sn.bk_c y 0
      have y1 := Sn.bk_c y 1
      simp only [List.getElem?_toArray, List.getElem?_cons_zero, List.getElem?_cons_succ] at y0 y1
      go_simp
    try simp only [List.getElem_toArray, List.getElem_cons_succ, List.getElem_cons_zero, Act.put, List.setIfInBounds_toArray, List.set_cons_zero, List.set_cons_succ]
    refine qc_take (.bool false) (by rfl) (fun W hW => ?_) ?_
    · (try dsimp only at hW)
      go_simp
    try simp only [List.getElem_toArray, List.getElem_cons_succ, List.getElem_cons_zero, Act.put, List.setIfInBounds_toArray, List.set_cons_zero, List.set_cons_succ]
    refine qc_take (.bool false) (by rfl) (fun W hW => ?_) ?_
    · (try dsimp only at hW)
      go_simp
    try simp only [List.getElem_toArray, List.getElem_cons_succ, List.getElem_cons_zero, Act.put, List.setIfInBounds_toArray, List.set_cons_zero, List.set_cons_succ]
    refine qc_skip (by rfl) ?_
    try simp only [List.getElem_toArray, List.getElem_cons_succ, List.getElem_cons_zero, Act.put, List.setIfInBounds_toArray, List.set_cons_zero, List.set_cons_succ]
    refine qc_skip (by rfl) ?_
    try simp only [List.getElem_toArray, List.getElem_cons_succ, List.getElem_cons_zero, Act.put, List.setIfInBounds_toArray, List.set_cons_zero, List.set_cons_succ]
    refine qc_skip (by rfl) ?_
    try simp only [List.getElem_toArray, List.getElem_cons_succ, List.getElem_cons_zero, Act.put, List.setIfInBounds_toArray, List.set_cons_zero, List.set_cons_succ]
    refine qc_skip (by rfl) ?_
    try simp only [List.getElem_toArray, List.getElem_cons_succ, List.getElem_cons_zero, Act.put, List.setIfInBounds_toArray, List.set_cons_zero, List.set_cons_succ]
    refine qc_skip (by rfl) ?_
    try simp only [List.getElem_toArray, List.getElem_cons_succ, List.getElem_cons_zero, Act.put, List.setIfInBounds_toArray, List.set_cons_zero, List.set_cons_succ]
    refine qc_take (.bool false) (by rfl) (fun W hW => ?_) ?_
    · (try dsimp only at hW)
      go_simp
    try simp only [List.getElem_toArray, List.getElem_cons_succ, List.getElem_cons_zero, Act.put, List.setIfInBounds_toArray, List.set_cons_zero, List.set_cons_succ]
    refine wpQuiet_nil ?_
    intro v2 hb
    have hr0 := Sn.bk_below HR0.out hb (Sn.bk_lt HR0.out)
    have hr1 := Sn.bk_below HR1.out hb (Sn.bk_lt HR1.out)
    have hr2 := Sn.bk_below HR2.out hb (Sn.bk_lt HR2.out)
    have hB := Sn.below_next HB.out hb HB.out.size
    clear HB HR0 HR1 HR2 hb
    have HB := Lib.hid hB
    have HR0 := Lib.hid hr0
    have HR1 := Lib.hid hr1
    have HR2 := Lib.hid hr2
    clear hB hr0 hr1 hr2
    clear v
    rename World => v
    go_wp2_with fail
    refine qc_all (fun W => Below v.heap.size v W) (by kernel_rfl) (by kernel_rfl) (Below.refl _ _).drew ?_
    refine qc_take (.int .i64 a) (by rfl) (fun W hW => ?_) ?_
    · (try dsimp only at hW)
      go_simp
    try simp only [List.getElem_toArray, List.getElem_cons_succ, List.getElem_cons_zero, Act.put, List.setIfInBounds_toArray, List.set_cons_zero, List.set_cons_succ]
    refine qc_take (.agg #[.int .u64 x1, .int .u64 x2]) (by rfl) (fun W hW => ?_) ?_
    · (try dsimp only at hW)
      have y := Sn.bk_below HR0.out hW (Sn.bk_lt HR0.out)
      have y0 := Sn.bk_c y 0
      have y1 := Sn.bk_c y 1
      simp only [List.getElem?_toArray, List.getElem?_cons_zero, List.getElem?_cons_succ] at y0 y1
      go_simp
    try simp only [List.getElem_toArray, List.getElem_cons_succ, List.getElem_cons_zero, Act.put, List.setIfInBounds_toArray, List.set_cons_zero, List.set_cons_succ]
    refine qc_take (.agg #[.int .u64 0, .int .u64 (Wd.msk a)]) (by rfl) (fun W hW => ?_) ?_
    · (try dsimp only at hW)
      go_simp
      exact (R1.out W).mono fun e w9 h9 => ⟨h9.1, Sn.below_next hW h9.2 hW.size⟩
    try simp only [List.getElem_toArray, List.getElem_cons_succ, List.getElem_cons_zero, Act.put, List.setIfInBounds_toArray, List.set_cons_zero, List.set_cons_succ]
    refine qc_take (.agg #[.int .u64 0, .int .u64 (Wd.msk a)]) (by rfl) (fun W hW => ?_) ?_
    · (try dsimp only at hW)
      have y := Sn.bk_below HR2.out hW (Sn.bk_lt HR2.out)
      have y0 := Sn.bk_c y 0
      have y1 := Sn.bk_c y 1
      simp only [List.getElem?_toArray, List.getElem?_cons_zero, List.getElem?_cons_succ] at y0 y1
      go_simp
    try simp only [List.getElem_toArray, List.getElem_cons_succ, List.getElem_cons_zero, Act.put, List.setIfInBounds_toArray, List.set_cons_zero, List.set_cons_succ]
    refine qc_take (.bool true) (by rfl) (fun W hW => ?_) ?_
    · (try dsimp only at hW)
      go_simp
    try simp only [List.getElem_toArray, List.getElem_cons_succ, List.getElem_cons_zero, Act.put, List.setIfInBounds_toArray, List.set_cons_zero, List.set_cons_succ]
    refine qc_take (.bool true) (by rfl) (fun W hW => ?_) ?_
    · (try dsimp only at hW)
      go_simp
    try simp only [List.getElem_toArray, List.getElem_cons_succ, List.getElem_cons_zero, Act.put, List.setIfInBounds_toArray, List.set_cons_zero, List.set_cons_succ]
    refine qc_take (.int .i64 op) (by rfl) (fun W hW => ?_) ?_
    · (try dsimp only at hW)
      go_simp
    try simp only [List.getElem_toArray, List.getElem_cons_succ, List.getElem_cons_zero, Act.put, List.setIfInBounds_toArray, List.set_cons_zero, List.set_cons_succ]
    refine qc_take (.int .i64 a) (by rfl) (fun W hW => ?_) ?_
    · (try dsimp only at hW)
      go_simp
    try simp only [List.getElem_toArray, List.getElem_cons_succ, List.getElem_cons_zero, Act.put, List.setIfInBounds_toArray, List.set_cons_zero, List.set_cons_succ]
    refine qc_take (.agg #[.int .u64 x1, .int .u64 x2]) (by rfl) (fun W hW => ?_) ?_
    · (try dsimp only at hW)
      have y := Sn.bk_below HR0.out hW (Sn.bk_lt HR0.out)
      have y0 := Sn.bk_c y 0
      have y1 := Sn.bk_c y 1
      simp only [List.getElem?_toArray, List.getElem?_cons_zero, List.getElem?_cons_succ] at y0 y1
      go_simp
    try simp only [List.getElem_toArray, List.getElem_cons_succ, List.getElem_cons_zero, Act.put, List.setIfInBounds_toArray, List.set_cons_zero, List.set_cons_succ]
    refine qc_take (.agg #[.int .u64 y1, .int .u64 y2]) (by rfl) (fun W hW => ?_) ?_
    · (try dsimp only at hW)
      have y := Sn.bk_below HR1.out hW (Sn.bk_lt HR1.out)
      have y0 := Sn.bk_c y 0
      have y1 := Sn.bk_c y 1
      simp only [List.getElem?_toArray, List.getElem?_cons_zero, List.getElem?_cons_succ] at y0 y1
      go_simp
    try simp only [List.getElem_toArray, List.getElem_cons_succ, List.getElem_cons_zero, Act.put, List.setIfInBounds_toArray, List.set_cons_zero, List.set_cons_succ]
    refine qc_take (.agg #[.int .u64 s1, .int .u64 s2]) (by rfl) (fun W hW => ?_) ?_
    · (try dsimp only at hW)
      go_simp
      exact (A1.out W).mono fun e w9 h9 => ⟨h9.1, Sn.below_next hW h9.2 hW.size⟩
    try simp only [List.getElem_toArray, List.getElem_cons_succ, List.getElem_cons_zero, Act.put, List.setIfInBounds_toArray, List.set_cons_zero, List.set_cons_succ]
    refine qc_take (.int .i64 op) (by rfl) (fun W hW => ?_) ?_
    · (try dsimp only at hW)
      go_simp
    try simp only [List.getElem_toArray, List.getElem_cons_succ, List.getElem_cons_zero, Act.put, List.setIfInBounds_toArray, List.set_cons_zero, List.set_cons_succ]
    refine qc_take (.int .i64 a) (by rfl) (fun W hW => ?_) ?_
    · (try dsimp only at hW)
      go_simp
    try simp only [List.getElem_toArray, List.getElem_cons_succ, List.getElem_cons_zero, Act.put, List.setIfInBounds_toArray, List.set_cons_zero, List.set_cons_succ]
    refine qc_take (.agg #[.int .u64 0, .int .u64 (Wd.msk a)]) (by rfl) (fun W hW => ?_) ?_
    · (try dsimp only at hW)
      have y := Sn.bk_below HR2.out hW (Sn.bk_lt HR2.out)
      have y0 := Sn.bk_c y 0
      have y1 := Sn.bk_c y 1
      simp only [List.getElem?_toArray, List.getElem?_cons_zero, List.getElem?_cons_succ] at y0 y1
      go_simp
    try simp only [List.getElem_toArray, List.getElem_cons_succ, List.getElem_cons_zero, Act.put, List.setIfInBounds_toArray, List.set_cons_zero, List.set_cons_succ]
    refine qc_take (.agg #[.int .u64 y1, .int .u64 y2]) (by rfl) (fun W hW => ?_) ?_
    · (try dsimp only at hW)
      have y := Sn.bk_below HR1.out hW (Sn.bk_lt HR1.out)
      have y0 := Sn.bk_c y 0
      have y1 := Sn.bk_c y 1
      simp only [List.getElem?_toArray, List.getElem?_cons_zero, List.getElem?_cons_succ] at y0 y1
      go_simp
    try simp only [List.getElem_toArray, List.getElem_cons_succ, List.getElem_cons_zero, Act.put, List.setIfInBounds_toArray, List.set_cons_zero, List.set_cons_succ]
    refine qc_take (.agg #[.int .u64 s1, .int .u64 s2]) (by rfl) (fun W hW => ?_) ?_
    · (try dsimp only at hW)
      go_simp
      exact (A2.out W).mono fun e w9 h9 => ⟨h9.1, Sn.below_next hW h9.2 hW.size⟩
    try simp only [List.getElem_toArray, List.getElem_cons_succ, List.getElem_cons_zero, Act.put, List.setIfInBounds_toArray, List.set_cons_zero, List.set_cons_succ]
    refine qc_take (.bool true) (by rfl) (fun W hW => ?_) ?_
    · (try dsimp only at hW)
      go_simp
    try simp only [List.getElem_toArray, List.getElem_cons_succ, List.getElem_cons_zero, Act.put, List.setIfInBounds_toArray, List.set_cons_zero, List.set_cons_succ]
    refine qc_take (.bool true) (by rfl) (fun W hW => ?_) ?_
    · (try dsimp only at hW)
      go_simp
    try simp only [List.getElem_toArray, List.getElem_cons_succ, List.getElem_cons_zero, Act.put, List.setIfInBounds_toArray, List.set_cons_zero, List.set_cons_succ]
    refine qc_take (.bool true) (by rfl) (fun W hW => ?_) ?_
    · (try dsimp only at hW)
      go_simp
    try simp only [List.getElem_toArray, List.getElem_cons_succ, List.getElem_cons_zero, Act.put, List.setIfInBounds_toArray, List.set_cons_zero, List.set_cons_succ]
    refine qc_take (.int .i64 op) (by rfl) (fun W hW => ?_) ?_
    · (try dsimp only at hW)
      go_simp
    try simp only [List.getElem_toArray, List.getElem_cons_succ, List.getElem_cons_zero, Act.put, List.setIfInBounds_toArray, List.set_cons_zero, List.set_cons_succ]
    refine qc_take (.int .i64 a) (by rfl) (fun W hW => ?_) ?_
    · (try dsimp only at hW)
      go_simp
    try simp only [List.getElem_toArray, List.getElem_cons_succ, List.getElem_cons_zero, Act.put, List.setIfInBounds_toArray, List.set_cons_zero, List.set_cons_succ]
    refine qc_take (.agg #[.int .u64 y1, .int .u64 y2]) (by rfl) (fun W hW => ?_) ?_
    · (try dsimp only at hW)
      have y := Sn.bk_below HR1.out hW (Sn.bk_lt HR1.out)
      have y0 := Sn.bk_c y 0
      have y1 := Sn.bk_c y 1
      simp only [List.getElem?_toArray, List.getElem?_cons_zero, List.getElem?_cons_succ] at y0 y1
      go_simp
    try simp only [List.getElem_toArray, List.getElem_cons_succ, List.getElem_cons_zero, Act.put, List.setIfInBounds_toArray, List.set_cons_zero, List.set_cons_succ]
    refine qc_take (.agg #[.int .u64 x1, .int .u64 x2]) (by rfl) (fun W hW => ?_) ?_
    · (try dsimp only at hW)
      have y := Sn.bk_below HR0.out hW (Sn.bk_lt HR0.out)
      have y0 := Sn.bk_c y 0
      have y1 := Sn.bk_c y 1
      simp only [List.getElem?_toArray, List.getElem?_cons_zero, List.getElem?_cons_succ] at y0 y1
      go_simp
    try simp only [List.getElem_toArray, List.getElem_cons_succ, List.getElem_cons_zero, Act.put, List.setIfInBounds_toArray, List.set_cons_zero, List.set_cons_succ]
    refine qc_take (.agg #[.int .u64 t1, .int .u64 t2]) (by rfl) (fun W hW => ?_) ?_
    · (try dsimp only at hW)
      go_simp
      exact (A3.out W).mono fun e w9 h9 => ⟨h9.1, Sn.below_next hW h9.2 hW.size⟩
    try simp only [List.getElem_toArray, List.getElem_cons_succ, List.getElem_cons_zero, Act.put, List.setIfInBounds_toArray, List.set_cons_zero, List.set_cons_succ]
    refine qc_take (.int .i64 op) (by rfl) (fun W hW => ?_) ?_
    · (try dsimp only at hW)
      go_simp
    try simp only [List.getElem_toArray, List.getElem_cons_succ, List.getElem_cons_zero, Act.put, List.setIfInBounds_toArray, List.set_cons_zero, List.set_cons_succ]
    refine qc_take (.int .i64 a) (by rfl) (fun W hW => ?_) ?_
    · (try dsimp only at hW)
      go_simp
    try simp only [List.getElem_toArray, List.getElem_cons_succ, List.getElem_cons_zero, Act.put, List.setIfInBounds_toArray, List.set_cons_zero, List.set_cons_succ]
    refine qc_take (.agg #[.int .u64 y1, .int .u64 y2]) (by rfl) (fun W hW => ?_) ?_
    · (try dsimp only at hW)
      have y := Sn.bk_below HR1.out hW (Sn.bk_lt HR1.out)
      have y0 := Sn.bk_c y 0
      have y1 := Sn.bk_c y 1
      simp only [List.getElem?_toArray, List.getElem?_cons_zero, List.getElem?_cons_succ] at y0 y1
      go_simp
    try simp only [List.getElem_toArray, List.getElem_cons_succ, List.getElem_cons_zero, Act.put, List.setIfInBounds_toArray, List.set_cons_zero, List.set_cons_succ]
    refine qc_take (.agg #[.int .u64 0, .int .u64 (Wd.msk a)]) (by rfl) (fun W hW => ?_) ?_
    · (try dsimp only at hW)
      have y := Sn.bk_below HR2.out hW (Sn.bk_lt HR2.out)
      have y0 := Sn.bk_c y 0
      have y1 := Sn.bk_c y 1
      simp only [List.getElem?_toArray, List.getElem?_cons_zero, List.getElem?_cons_succ] at y0 y1
      go_simp
    try simp only [List.getElem_toArray, List.getElem_cons_succ, List.getElem_cons_zero, Act.put, List.setIfInBounds_toArray, List.set_cons_zero, List.set_cons_succ]
    refine qc_take (.agg #[.int .u64 t1, .int .u64 t2]) (by rfl) (fun W hW => ?_) ?_
    · (try dsimp only at hW)
      go_simp
      exact (A4.out W).mono fun e w9 h9 => ⟨h9.1, Sn.below_next hW h9.2 hW.size⟩
    try simp only [List.getElem_toArray, List.getElem_cons_succ, List.getElem_cons_zero, Act.put, List.setIfInBounds_toArray, List.set_cons_zero, List.set_cons_succ]
    refine qc_take (.bool true) (by rfl) (fun W hW => ?_) ?_
    · (try dsimp only at hW)
      go_simp
    try simp only [List.getElem_toArray, List.getElem_cons_succ, List.getElem_cons_zero, Act.put, List.setIfInBounds_toArray, List.set_cons_zero, List.set_cons_succ]
    refine qc_take (.bool true) (by rfl) (fun W hW => ?_) ?_
    · (try dsimp only at hW)
      go_simp
    try simp only [List.getElem_toArray, List.getElem_cons_succ, List.getElem_cons_zero, Act.put, List.setIfInBounds_toArray, List.set_cons_zero, List.set_cons_succ]
    refine qc_take (.bool true) (by rfl) (fun W hW => ?_) ?_
    · (try dsimp only at hW)
      go_simp
    try simp only [List.getElem_toArray, List.getElem_cons_succ, List.getElem_cons_zero, Act.put, List.setIfInBounds_toArray, List.set_cons_zero, List.set_cons_succ]
    refine qc_take (.int .i64 a) (by rfl) (fun W hW => ?_) ?_
    · (try dsimp only at hW)
      go_simp
    try simp only [List.getElem_toArray, List.getElem_cons_succ, List.getElem_cons_zero, Act.put, List.setIfInBounds_toArray, List.set_cons_zero, List.set_cons_succ]
    refine qc_take (.agg #[.int .u64 x1, .int .u64 x2]) (by rfl) (fun W hW => ?_) ?_
    · (try dsimp only at hW)
      have y := Sn.bk_below HR0.out hW (Sn.bk_lt HR0.out)
      have y0 := Sn.bk_c y 0
      have y1 := Sn.bk_c y 1
      simp only [List.getElem?_toArray, List.getElem?_cons_zero, List.getElem?_cons_succ] at y0 y1
      go_simp
    try simp only [List.getElem_toArray, List.getElem_cons_succ, List.getElem_cons_zero, Act.put, List.setIfInBounds_toArray, List.set_cons_zero, List.set_cons_succ]
    refine qc_take (.agg #[.int .u64 y1, .int .u64 y2]) (by rfl) (fun W hW => ?_) ?_
    · (try dsimp only at hW)
      have y := Sn.bk_below HR1.out hW (Sn.bk_lt HR1.out)
      have y0 := Sn.bk_c y 0
      have y1 := Sn.bk_c y 1
      simp only [List.getElem?_toArray, List.getElem?_cons_zero, List.getElem?_cons_succ] at y0 y1
      go_simp
    try simp only [List.getElem_toArray, List.getElem_cons_succ, List.getElem_cons_zero, Act.put, List.setIfInBounds_toArray, List.set_cons_zero, List.set_cons_succ]
    refine qc_take (.agg #[.int .u64 0, .int .u64 (Wd.msk a)]) (by rfl) (fun W hW => ?_) ?_
    · (try dsimp only at hW)
      go_simp
      exact (J1.out W).mono fun e w9 h9 => ⟨h9.1, Sn.below_next hW h9.2 hW.size⟩
    try simp only [List.getElem_toArray, List.getElem_cons_succ, List.getElem_cons_zero, Act.put, List.setIfInBounds_toArray, List.set_cons_zero, List.set_cons_succ]
    refine qc_take (.agg #[.int .u64 0, .int .u64 (Wd.msk a)]) (by rfl) (fun W hW => ?_) ?_
    · (try dsimp only at hW)
      have y := Sn.bk_below HR2.out hW (Sn.bk_lt HR2.out)
      have y0 := Sn.bk_c y 0
      have y1 := Sn.bk_c y 1
      simp only [List.getElem?_toArray, List.getElem?_cons_zero, List.getElem?_cons_succ] at y0 y1
      go_simp
    try simp only [List.getElem_toArray, List.getElem_cons_succ, List.getElem_cons_zero, Act.put, List.setIfInBounds_toArray, List.set_cons_zero, List.set_cons_succ]
    refine qc_take (.bool true) (by rfl) (fun W hW => ?_) ?_
    · (try dsimp only at hW)
      go_simp
    try simp only [List.getElem_toArray, List.getElem_cons_succ, List.getElem_cons_zero, Act.put, List.setIfInBounds_toArray, List.set_cons_zero, List.set_cons_succ]
    refine qc_take (.bool true) (by rfl) (fun W hW => ?_) ?_
    · (try dsimp only at hW)
      go_simp
    try simp only [List.getElem_toArray, List.getElem_cons_succ, List.getElem_cons_zero, Act.put, List.setIfInBounds_toArray, List.set_cons_zero, List.set_cons_succ]
    refine qc_take (.bool true) (by rfl) (fun W hW => ?_) ?_
    · (try dsimp only at hW)
      go_simp
    try simp only [List.getElem_toArray, List.getElem_cons_succ, List.getElem_cons_zero, Act.put, List.setIfInBounds_toArray, List.set_cons_zero, List.set_cons_succ]
    refine wpQuiet_nil ?_
    intro v2 hb
    have hr0 := Sn.bk_below HR0.out hb (Sn.bk_lt HR0.out)
    have hB := Sn.below_next HB.out hb HB.out.size
    clear HB HR0 hb
    have HB := Lib.hid hB
    have HR0 := Lib.hid hr0
    clear hB hr0
    go_wp2_with fail
    go_ret
    exact ⟨rfl, HB.out⟩


end Go.Proofs.Ytbjckcjfambpoaa
