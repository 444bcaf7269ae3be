/-
  Layer 11: the rules of OpSub, OpMul, OpDiv.
-/
import Derived.Test.YtbjckcjfambpoaaSnW8
namespace Go.Proofs.Ytbjckcjfambpoaa
set_option linter.unusedSimpArgs false
set_option linter.unusedVariables false
open Go.RowKit Go.Maps
set_option maxRecDepth 100000

set_option maxHeartbeats 6400000 in
theorem number_sub (op a : Int) (x y : Sn.S) (hop : op = 9) (hx : Sn.Ok a x) (hy : Sn.Ok a y) (w : World) :
    Calls Try.prog 24 #[.int .i64 op, .int .i64 a, Sn.v x, Sn.v y] w fun e w' => ∃ r, e = .returned r ∧ Sn.For w' r a x y (Sn.tab op a x y) ∧ Below w.heap.size w w' := by
  subst hop
  obtain ⟨x1, x2⟩ := x
  obtain ⟨y1, y2⟩ := y
  have hm := Wd.msk_hi a
  have hx2 := hx
  have hy2 := hy
  unfold Sn.Ok at hx2 hy2
  dsimp only at hx2 hy2
  by_cases g1 : y2 > x1
  · by_cases g2 : y1 > x2
    · rw [Sn.sub_cut hx hy g2]
      show Calls Try.prog 24 #[.int .i64 9, .int .i64 a, .agg #[.int .u64 x1, .int .u64 x2], .agg #[.int .u64 y1, .int .u64 y2]] w _
      go_enter Try.func24, Try.ntmps24
      go_upto_region 2 with (go_at_call 21; refine (mask_any _ _).mono ?_; rintro e w' ⟨rfl, rfl⟩)
      have hB : Below w.heap.size w (((((w.alloc (.cells #[.int .i64 a] 3)).alloc (.cells #[.int .u64 x1, .int .u64 x2] 24)).alloc (.cells #[.int .u64 y1, .int .u64 y2] 24)).alloc (.cells Sn.Z4 43)).alloc (.cells #[.int .u64 (Wd.msk a)] 22)) := ((((((Below.refl _ _).alloc (Nat.le_refl _) _).alloc (by simp) _).alloc (by simp; omega) _).alloc (by simp; omega) _).alloc (by simp; omega) _)
      have hr0 : Sn.Bk (((((w.alloc (.cells #[.int .i64 a] 3)).alloc (.cells #[.int .u64 x1, .int .u64 x2] 24)).alloc (.cells #[.int .u64 y1, .int .u64 y2] 24)).alloc (.cells Sn.Z4 43)).alloc (.cells #[.int .u64 (Wd.msk a)] 22)) (w.heap.size) 3 #[.int .i64 a] := Sn.bk_old (Sn.bk_old (Sn.bk_old (Sn.bk_old (Sn.bk_new _ _ _) _) _) _) _
      have hr1 : Sn.Bk (((((w.alloc (.cells #[.int .i64 a] 3)).alloc (.cells #[.int .u64 x1, .int .u64 x2] 24)).alloc (.cells #[.int .u64 y1, .int .u64 y2] 24)).alloc (.cells Sn.Z4 43)).alloc (.cells #[.int .u64 (Wd.msk a)] 22)) (w.heap.size + 1) 24 #[.int .u64 x1, .int .u64 x2] := Sn.bk_old (Sn.bk_old (Sn.bk_old (Sn.bk_at (by simp)) _) _) _
      have hr2 : Sn.Bk (((((w.alloc (.cells #[.int .i64 a] 3)).alloc (.cells #[.int .u64 x1, .int .u64 x2] 24)).alloc (.cells #[.int .u64 y1, .int .u64 y2] 24)).alloc (.cells Sn.Z4 43)).alloc (.cells #[.int .u64 (Wd.msk a)] 22)) (w.heap.size + 1 + 1) 24 #[.int .u64 y1, .int .u64 y2] := Sn.bk_old (Sn.bk_old (Sn.bk_at (by simp)) _) _
      have hr3 : Sn.Bk (((((w.alloc (.cells #[.int .i64 a] 3)).alloc (.cells #[.int .u64 x1, .int .u64 x2] 24)).alloc (.cells #[.int .u64 y1, .int .u64 y2] 24)).alloc (.cells Sn.Z4 43)).alloc (.cells #[.int .u64 (Wd.msk a)] 22)) (w.heap.size + 1 + 1 + 1) 43 Sn.Z4 := Sn.bk_old (Sn.bk_at (by simp)) _
      have hr4 : Sn.Bk (((((w.alloc (.cells #[.int .i64 a] 3)).alloc (.cells #[.int .u64 x1, .int .u64 x2] 24)).alloc (.cells #[.int .u64 y1, .int .u64 y2] 24)).alloc (.cells Sn.Z4 43)).alloc (.cells #[.int .u64 (Wd.msk a)] 22)) (w.heap.size + 1 + 1 + 1 + 1) 22 #[.int .u64 (Wd.msk a)] := Sn.bk_at (by simp)
      generalize (((((w.alloc (.cells #[.int .i64 a] 3)).alloc (.cells #[.int .u64 x1, .int .u64 x2] 24)).alloc (.cells #[.int .u64 y1, .int .u64 y2] 24)).alloc (.cells Sn.Z4 43)).alloc (.cells #[.int .u64 (Wd.msk a)] 22)) = v at *
      have HB := Lib.hid hB
      have HR0 := Lib.hid hr0
      have HR1 := Lib.hid hr1
      have HR2 := Lib.hid hr2
      have HR3 := Lib.hid hr3
      have HR4 := Lib.hid hr4
      clear hB hr0 hr1 hr2 hr3 hr4
      go_wp2_with fail
      refine qc_all (fun W => Below v.heap.size v W) (by kernel_rfl) (by kernel_rfl) (Below.refl _ _).drew ?_
      refine qc_take (.func (.func 47) #[] #[]) (by rfl) (fun W hW => ?_) ?_
      · (try dsimp only at hW)
        go_simp
      try simp only [List.getElem_toArray, List.getElem_cons_succ, List.getElem_cons_zero, Act.put, List.setIfInBounds_toArray, List.set_cons_zero, List.set_cons_succ]
      refine qc_take (.pointer (some ⟨w.heap.size + 1, 0, none⟩)) (by rfl) (fun W hW => ?_) ?_
      · (try dsimp only at hW)
        go_simp
      try simp only [List.getElem_toArray, List.getElem_cons_succ, List.getElem_cons_zero, Act.put, List.setIfInBounds_toArray, List.set_cons_zero, List.set_cons_succ]
      refine qc_take (.int .u64 x1) (by rfl) (fun W hW => ?_) ?_
      · (try dsimp only at hW)
        have y := Sn.bk_below HR1.out hW (Sn.bk_lt HR1.out)
        have y0 := Sn.bk_c y 0
        have y1 := Sn.bk_c y 1
        simp only [List.getElem?_toArray, List.getElem?_cons_zero, List.getElem?_cons_succ] at y0 y1
        go_simp
      try simp only [List.getElem_toArray, List.getElem_cons_succ, List.getElem_cons_zero, Act.put, List.setIfInBounds_toArray, List.set_cons_zero, List.set_cons_succ]
      refine qc_take (.pointer (some ⟨w.heap.size + 1 + 1, 1, none⟩)) (by rfl) (fun W hW => ?_) ?_
      · (try dsimp only at hW)
        go_simp
      try simp only [List.getElem_toArray, List.getElem_cons_succ, List.getElem_cons_zero, Act.put, List.setIfInBounds_toArray, List.set_cons_zero, List.set_cons_succ]
      refine qc_take (.int .u64 y2) (by rfl) (fun W hW => ?_) ?_
      · (try dsimp only at hW)
        have y := Sn.bk_below HR2.out hW (Sn.bk_lt HR2.out)
        have y0 := Sn.bk_c y 0
        have y1 := Sn.bk_c y 1
        simp only [List.getElem?_toArray, List.getElem?_cons_zero, List.getElem?_cons_succ] at y0 y1
        go_simp
      try simp only [List.getElem_toArray, List.getElem_cons_succ, List.getElem_cons_zero, Act.put, List.setIfInBounds_toArray, List.set_cons_zero, List.set_cons_succ]
      refine qc_take (.bool true) (by rfl) (fun W hW => ?_) ?_
      · (try dsimp only at hW)
        go_simp
        have hh := isCut2_any x1 y2 W
        rw [show decide (y2 > x1) = true by simp; omega] at hh
        exact hh.mono fun e w9 h9 => ⟨h9.1, h9.2 ▸ hW⟩
      try simp only [List.getElem_toArray, List.getElem_cons_succ, List.getElem_cons_zero, Act.put, List.setIfInBounds_toArray, List.set_cons_zero, List.set_cons_succ]
      refine qc_take (.func (.func 47) #[] #[]) (by rfl) (fun W hW => ?_) ?_
      · (try dsimp only at hW)
        go_simp
      try simp only [List.getElem_toArray, List.getElem_cons_succ, List.getElem_cons_zero, Act.put, List.setIfInBounds_toArray, List.set_cons_zero, List.set_cons_succ]
      refine qc_take (.pointer (some ⟨w.heap.size + 1, 1, none⟩)) (by rfl) (fun W hW => ?_) ?_
      · (try dsimp only at hW)
        go_simp
      try simp only [List.getElem_toArray, List.getElem_cons_succ, List.getElem_cons_zero, Act.put, List.setIfInBounds_toArray, List.set_cons_zero, List.set_cons_succ]
      refine qc_take (.int .u64 x2) (by rfl) (fun W hW => ?_) ?_
      · (try dsimp only at hW)
        have y := Sn.bk_below HR1.out hW (Sn.bk_lt HR1.out)
        have y0 := Sn.bk_c y 0
        have y1 := Sn.bk_c y 1
        simp only [List.getElem?_toArray, List.getElem?_cons_zero, List.getElem?_cons_succ] at y0 y1
        go_simp
      try simp only [List.getElem_toArray, List.getElem_cons_succ, List.getElem_cons_zero, Act.put, List.setIfInBounds_toArray, List.set_cons_zero, List.set_cons_succ]
      refine qc_take (.pointer (some ⟨w.heap.size + 1 + 1, 0, none⟩)) (by rfl) (fun W hW => ?_) ?_
      · (try dsimp only at hW)
        go_simp
      try simp only [List.getElem_toArray, List.getElem_cons_succ, List.getElem_cons_zero, Act.put, List.setIfInBounds_toArray, List.set_cons_zero, List.set_cons_succ]
      refine qc_take (.int .u64 y1) (by rfl) (fun W hW => ?_) ?_
      · (try dsimp only at hW)
        have y := Sn.bk_below HR2.out hW (Sn.bk_lt HR2.out)
        have y0 := Sn.bk_c y 0
        have y1 := Sn.bk_c y 1
        simp only [List.getElem?_toArray, List.getElem?_cons_zero, List.getElem?_cons_succ] at y0 y1
        go_simp
      try simp only [List.getElem_toArray, List.getElem_cons_succ, List.getElem_cons_zero, Act.put, List.setIfInBounds_toArray, List.set_cons_zero, List.set_cons_succ]
      refine qc_take (.bool true) (by rfl) (fun W hW => ?_) ?_
      · (try dsimp only at hW)
        go_simp
        have hh := isCut2_any x2 y1 W
        rw [show decide (y1 > x2) = true by simp; omega] at hh
        exact hh.mono fun e w9 h9 => ⟨h9.1, h9.2 ▸ hW⟩
      try simp only [List.getElem_toArray, List.getElem_cons_succ, List.getElem_cons_zero, Act.put, List.setIfInBounds_toArray, List.set_cons_zero, List.set_cons_succ]
      refine qc_take (.bool true) (by rfl) (fun W hW => ?_) ?_
      · (try dsimp only at hW)
        go_simp
      try simp only [List.getElem_toArray, List.getElem_cons_succ, List.getElem_cons_zero, Act.put, List.setIfInBounds_toArray, List.set_cons_zero, List.set_cons_succ]
      refine qc_take (.bool true) (by rfl) (fun W hW => ?_) ?_
      · (try dsimp only at hW)
        go_simp
      try simp only [List.getElem_toArray, List.getElem_cons_succ, List.getElem_cons_zero, Act.put, List.setIfInBounds_toArray, List.set_cons_zero, List.set_cons_succ]
      refine wpQuiet_nil ?_
      intro v2 hb
      have hr0 := Sn.bk_below HR0.out hb (Sn.bk_lt HR0.out)
      have hr3 := Sn.bk_below HR3.out hb (Sn.bk_lt HR3.out)
      have hB := Sn.below_next HB.out hb HB.out.size
      clear HB HR0 HR3 hb
      have HB := Lib.hid hB
      have HR0 := Lib.hid hr0
      have HR3 := Lib.hid hr3
      clear hB hr0 hr3
      clear HR1 HR2 HR4 v
      rename World => v
      go_wp2_with fail
      refine (crossing_any true 49 #[Sn.pt w.heap.size] _).mono ?_
      rintro e v4 ⟨rfl, hb⟩
      have hr0 := Sn.bk_below HR0.out hb (Sn.bk_lt HR0.out)
      have hr3 := Sn.bk_below HR3.out hb (Sn.bk_lt HR3.out)
      have hB := Sn.below_next HB.out hb HB.out.size
      clear HB HR0 HR3 hb
      have HB := Lib.hid hB
      have HR0 := Lib.hid hr0
      have HR3 := Lib.hid hr3
      clear hB hr0 hr3
      have H1C := Lib.hid (show (#[.bool true, .func (.func 49) #[] #[Sn.pt w.heap.size], .func (.func 49) #[] #[Sn.pt w.heap.size], .bool true] : Array Value).all (·.oneCell') = true from by simp [Value.oneCell'])
      go_wp2_with (with_reducible refine Sn.store_rl (.tmp 8) (.tmp 56) (w.heap.size + 1 + 1 + 1) Sn.Z4 #[.bool true, .func (.func 49) #[] #[Sn.pt w.heap.size], .func (.func 49) #[] #[Sn.pt w.heap.size], .bool true] HR3.out rfl rfl rfl rfl rfl rfl H1C.out ?_)
      refine Sn.ret_rl (w.heap.size + 1 + 1 + 1) _ (Sn.bk_row HR3.out _) rfl rfl rfl rfl ?_
      refine ⟨_, rfl, fun W hW => ?_, Sn.below_set HB.out (by omega) _⟩
      exact rspan_t 49 49 #[Sn.pt w.heap.size] #[Sn.pt w.heap.size] a (x1, x2) (y1, y2) (Wd.cut a (x1 - y2)) (Wd.cut a (x2 - y1)) W (fun args W => by simp [go_sem]) (fun args W => by simp [go_sem])
        (fun W2 h2 => by rw [Sn.app1]; have hr := Sn.bk_below (Sn.bk_below (Sn.bk_row_other HR0.out (show w.heap.size ≠ w.heap.size + 1 + 1 + 1 by omega) _) hW (Sn.bk_lt (Sn.bk_row_other HR0.out (show w.heap.size ≠ w.heap.size + 1 + 1 + 1 by omega) _))) h2 (Sn.bk_lt (Sn.bk_below (Sn.bk_row_other HR0.out (show w.heap.size ≠ w.heap.size + 1 + 1 + 1 by omega) _) hW (Sn.bk_lt (Sn.bk_row_other HR0.out (show w.heap.size ≠ w.heap.size + 1 + 1 + 1 by omega) _)))); exact subc_any x1 y2 w.heap.size a W2 (Sn.bk_c hr 0))
        (fun W2 h2 => by rw [Sn.app1]; have hr := Sn.bk_below (Sn.bk_below (Sn.bk_row_other HR0.out (show w.heap.size ≠ w.heap.size + 1 + 1 + 1 by omega) _) hW (Sn.bk_lt (Sn.bk_row_other HR0.out (show w.heap.size ≠ w.heap.size + 1 + 1 + 1 by omega) _))) h2 (Sn.bk_lt (Sn.bk_below (Sn.bk_row_other HR0.out (show w.heap.size ≠ w.heap.size + 1 + 1 + 1 by omega) _) hW (Sn.bk_lt (Sn.bk_row_other HR0.out (show w.heap.size ≠ w.heap.size + 1 + 1 + 1 by omega) _)))); exact subc_any x2 y1 w.heap.size a W2 (Sn.bk_c hr 0))
    · rw [Sn.sub_no g1 g2]
      show Calls Try.prog 24 #[.int .i64 9, .int .i64 a, .agg #[.int .u64 x1, .int .u64 x2], .agg #[.int .u64 y1, .int .u64 y2]] w _
      go_enter Try.func24, Try.ntmps24
      go_upto_region 2 with (go_at_call 21; refine (mask_any _ _).mono ?_; rintro e w' ⟨rfl, rfl⟩)
      have hB : Below w.heap.size w (((((w.alloc (.cells #[.int .i64 a] 3)).alloc (.cells #[.int .u64 x1, .int .u64 x2] 24)).alloc (.cells #[.int .u64 y1, .int .u64 y2] 24)).alloc (.cells Sn.Z4 43)).alloc (.cells #[.int .u64 (Wd.msk a)] 22)) := ((((((Below.refl _ _).alloc (Nat.le_refl _) _).alloc (by simp) _).alloc (by simp; omega) _).alloc (by simp; omega) _).alloc (by simp; omega) _)
      have hr0 : Sn.Bk (((((w.alloc (.cells #[.int .i64 a] 3)).alloc (.cells #[.int .u64 x1, .int .u64 x2] 24)).alloc (.cells #[.int .u64 y1, .int .u64 y2] 24)).alloc (.cells Sn.Z4 43)).alloc (.cells #[.int .u64 (Wd.msk a)] 22)) (w.heap.size) 3 #[.int .i64 a] := Sn.bk_old (Sn.bk_old (Sn.bk_old (Sn.bk_old (Sn.bk_new _ _ _) _) _) _) _
      have hr1 : Sn.Bk (((((w.alloc (.cells #[.int .i64 a] 3)).alloc (.cells #[.int .u64 x1, .int .u64 x2] 24)).alloc (.cells #[.int .u64 y1, .int .u64 y2] 24)).alloc (.cells Sn.Z4 43)).alloc (.cells #[.int .u64 (Wd.msk a)] 22)) (w.heap.size + 1) 24 #[.int .u64 x1, .int .u64 x2] := Sn.bk_old (Sn.bk_old (Sn.bk_old (Sn.bk_at (by simp)) _) _) _
      have hr2 : Sn.Bk (((((w.alloc (.cells #[.int .i64 a] 3)).alloc (.cells #[.int .u64 x1, .int .u64 x2] 24)).alloc (.cells #[.int .u64 y1, .int .u64 y2] 24)).alloc (.cells Sn.Z4 43)).alloc (.cells #[.int .u64 (Wd.msk a)] 22)) (w.heap.size + 1 + 1) 24 #[.int .u64 y1, .int .u64 y2] := Sn.bk_old (Sn.bk_old (Sn.bk_at (by simp)) _) _
      have hr3 : Sn.Bk (((((w.alloc (.cells #[.int .i64 a] 3)).alloc (.cells #[.int .u64 x1, .int .u64 x2] 24)).alloc (.cells #[.int .u64 y1, .int .u64 y2] 24)).alloc (.cells Sn.Z4 43)).alloc (.cells #[.int .u64 (Wd.msk a)] 22)) (w.heap.size + 1 + 1 + 1) 43 Sn.Z4 := Sn.bk_old (Sn.bk_at (by simp)) _
      have hr4 : Sn.Bk (((((w.alloc (.cells #[.int .i64 a] 3)).alloc (.cells #[.int .u64 x1, .int .u64 x2] 24)).alloc (.cells #[.int .u64 y1, .int .u64 y2] 24)).alloc (.cells Sn.Z4 43)).alloc (.cells #[.int .u64 (Wd.msk a)] 22)) (w.heap.size + 1 + 1 + 1 + 1) 22 #[.int .u64 (Wd.msk a)] := Sn.bk_at (by simp)
      generalize (((((w.alloc (.cells #[.int .i64 a] 3)).alloc (.cells #[.int .u64 x1, .int .u64 x2] 24)).alloc (.cells #[.int .u64 y1, .int .u64 y2] 24)).alloc (.cells Sn.Z4 43)).alloc (.cells #[.int .u64 (Wd.msk a)] 22)) = v at *
      have HB := Lib.hid hB
      have HR0 := Lib.hid hr0
      have HR1 := Lib.hid hr1
      have HR2 := Lib.hid hr2
      have HR3 := Lib.hid hr3
      have HR4 := Lib.hid hr4
      clear hB hr0 hr1 hr2 hr3 hr4
      go_wp2_with fail
      refine qc_all (fun W => Below v.heap.size v W) (by kernel_rfl) (by kernel_rfl) (Below.refl _ _).drew ?_
      refine qc_take (.func (.func 47) #[] #[]) (by rfl) (fun W hW => ?_) ?_
      · (try dsimp only at hW)
        go_simp
      try simp only [List.getElem_toArray, List.getElem_cons_succ, List.getElem_cons_zero, Act.put, List.setIfInBounds_toArray, List.set_cons_zero, List.set_cons_succ]
      refine qc_take (.pointer (some ⟨w.heap.size + 1, 0, none⟩)) (by rfl) (fun W hW => ?_) ?_
      · (try dsimp only at hW)
        go_simp
      try simp only [List.getElem_toArray, List.getElem_cons_succ, List.getElem_cons_zero, Act.put, List.setIfInBounds_toArray, List.set_cons_zero, List.set_cons_succ]
      refine qc_take (.int .u64 x1) (by rfl) (fun W hW => ?_) ?_
      · (try dsimp only at hW)
        have y := Sn.bk_below HR1.out hW (Sn.bk_lt HR1.out)
        have y0 := Sn.bk_c y 0
        have y1 := Sn.bk_c y 1
        simp only [List.getElem?_toArray, List.getElem?_cons_zero, List.getElem?_cons_succ] at y0 y1
        go_simp
      try simp only [List.getElem_toArray, List.getElem_cons_succ, List.getElem_cons_zero, Act.put, List.setIfInBounds_toArray, List.set_cons_zero, List.set_cons_succ]
      refine qc_take (.pointer (some ⟨w.heap.size + 1 + 1, 1, none⟩)) (by rfl) (fun W hW => ?_) ?_
      · (try dsimp only at hW)
        go_simp
      try simp only [List.getElem_toArray, List.getElem_cons_succ, List.getElem_cons_zero, Act.put, List.setIfInBounds_toArray, List.set_cons_zero, List.set_cons_succ]
      refine qc_take (.int .u64 y2) (by rfl) (fun W hW => ?_) ?_
      · (try dsimp only at hW)
        have y := Sn.bk_below HR2.out hW (Sn.bk_lt HR2.out)
        have y0 := Sn.bk_c y 0
        have y1 := Sn.bk_c y 1
        simp only [List.getElem?_toArray, List.getElem?_cons_zero, List.getElem?_cons_succ] at y0 y1
        go_simp
      try simp only [List.getElem_toArray, List.getElem_cons_succ, List.getElem_cons_zero, Act.put, List.setIfInBounds_toArray, List.set_cons_zero, List.set_cons_succ]
      refine qc_take (.bool true) (by rfl) (fun W hW => ?_) ?_
      · (try dsimp only at hW)
        go_simp
        have hh := isCut2_any x1 y2 W
        rw [show decide (y2 > x1) = true by simp; omega] at hh
        exact hh.mono fun e w9 h9 => ⟨h9.1, h9.2 ▸ hW⟩
      try simp only [List.getElem_toArray, List.getElem_cons_succ, List.getElem_cons_zero, Act.put, List.setIfInBounds_toArray, List.set_cons_zero, List.set_cons_succ]
      refine qc_take (.func (.func 47) #[] #[]) (by rfl) (fun W hW => ?_) ?_
      · (try dsimp only at hW)
        go_simp
      try simp only [List.getElem_toArray, List.getElem_cons_succ, List.getElem_cons_zero, Act.put, List.setIfInBounds_toArray, List.set_cons_zero, List.set_cons_succ]
      refine qc_take (.pointer (some ⟨w.heap.size + 1, 1, none⟩)) (by rfl) (fun W hW => ?_) ?_
      · (try dsimp only at hW)
        go_simp
      try simp only [List.getElem_toArray, List.getElem_cons_succ, List.getElem_cons_zero, Act.put, List.setIfInBounds_toArray, List.set_cons_zero, List.set_cons_succ]
      refine qc_take (.int .u64 x2) (by rfl) (fun W hW => ?_) ?_
      · (try dsimp only at hW)
        have y := Sn.bk_below HR1.out hW (Sn.bk_lt HR1.out)
        have y0 := Sn.bk_c y 0
        have y1 := Sn.bk_c y 1
        simp only [List.getElem?_toArray, List.getElem?_cons_zero, List.getElem?_cons_succ] at y0 y1
        go_simp
      try simp only [List.getElem_toArray, List.getElem_cons_succ, List.getElem_cons_zero, Act.put, List.setIfInBounds_toArray, List.set_cons_zero, List.set_cons_succ]
      refine qc_take (.pointer (some ⟨w.heap.size + 1 + 1, 0, none⟩)) (by rfl) (fun W hW => ?_) ?_
      · (try dsimp only at hW)
        go_simp
      try simp only [List.getElem_toArray, List.getElem_cons_succ, List.getElem_cons_zero, Act.put, List.setIfInBounds_toArray, List.set_cons_zero, List.set_cons_succ]
      refine qc_take (.int .u64 y1) (by rfl) (fun W hW => ?_) ?_
      · (try dsimp only at hW)
        have y := Sn.bk_below HR2.out hW (Sn.bk_lt HR2.out)
        have y0 := Sn.bk_c y 0
        have y1 := Sn.bk_c y 1
        simp only [List.getElem?_toArray, List.getElem?_cons_zero, List.getElem?_cons_succ] at y0 y1
        go_simp
      try simp only [List.getElem_toArray, List.getElem_cons_succ, List.getElem_cons_zero, Act.put, List.setIfInBounds_toArray, List.set_cons_zero, List.set_cons_succ]
      refine qc_take (.bool false) (by rfl) (fun W hW => ?_) ?_
      · (try dsimp only at hW)
        go_simp
        have hh := isCut2_any x2 y1 W
        rw [show decide (y1 > x2) = false by simp; omega] at hh
        exact hh.mono fun e w9 h9 => ⟨h9.1, h9.2 ▸ hW⟩
      try simp only [List.getElem_toArray, List.getElem_cons_succ, List.getElem_cons_zero, Act.put, List.setIfInBounds_toArray, List.set_cons_zero, List.set_cons_succ]
      refine qc_take (.bool false) (by rfl) (fun W hW => ?_) ?_
      · (try dsimp only at hW)
        go_simp
      try simp only [List.getElem_toArray, List.getElem_cons_succ, List.getElem_cons_zero, Act.put, List.setIfInBounds_toArray, List.set_cons_zero, List.set_cons_succ]
      refine qc_take (.bool false) (by rfl) (fun W hW => ?_) ?_
      · (try dsimp only at hW)
        go_simp
      try simp only [List.getElem_toArray, List.getElem_cons_succ, List.getElem_cons_zero, Act.put, List.setIfInBounds_toArray, List.set_cons_zero, List.set_cons_succ]
      refine wpQuiet_nil ?_
      intro v2 hb
      have hr0 := Sn.bk_below HR0.out hb (Sn.bk_lt HR0.out)
      have hr3 := Sn.bk_below HR3.out hb (Sn.bk_lt HR3.out)
      have hB := Sn.below_next HB.out hb HB.out.size
      clear HB HR0 HR3 hb
      have HB := Lib.hid hB
      have HR0 := Lib.hid hr0
      have HR3 := Lib.hid hr3
      clear hB hr0 hr3
      clear HR1 HR2 HR4 v
      rename World => v
      go_wp2_with fail
      refine (crossing_any false 49 #[Sn.pt w.heap.size] _).mono ?_
      rintro e v4 ⟨rfl, hb⟩
      have hr0 := Sn.bk_below HR0.out hb (Sn.bk_lt HR0.out)
      have hr3 := Sn.bk_below HR3.out hb (Sn.bk_lt HR3.out)
      have hB := Sn.below_next HB.out hb HB.out.size
      clear HB HR0 HR3 hb
      have HB := Lib.hid hB
      have HR0 := Lib.hid hr0
      have HR3 := Lib.hid hr3
      clear hB hr0 hr3
      have H1C := Lib.hid (show (#[.bool false, .func (.func 49) #[] #[Sn.pt w.heap.size], .func (.func 49) #[] #[Sn.pt w.heap.size], .bool true] : Array Value).all (·.oneCell') = true from by simp [Value.oneCell'])
      go_wp2_with (with_reducible refine Sn.store_rl (.tmp 8) (.tmp 56) (w.heap.size + 1 + 1 + 1) Sn.Z4 #[.bool false, .func (.func 49) #[] #[Sn.pt w.heap.size], .func (.func 49) #[] #[Sn.pt w.heap.size], .bool true] HR3.out rfl rfl rfl rfl rfl rfl H1C.out ?_)
      refine Sn.ret_rl (w.heap.size + 1 + 1 + 1) _ (Sn.bk_row HR3.out _) rfl rfl rfl rfl ?_
      refine ⟨_, rfl, fun W hW => ?_, Sn.below_set HB.out (by omega) _⟩
      exact rspan_no true 49 49 #[Sn.pt w.heap.size] #[Sn.pt w.heap.size] a (x1, x2) (y1, y2) W
  · have g2 : ¬ y1 > x2 := by omega
    rw [Sn.sub_un hx hy g1]
    show Calls Try.prog 24 #[.int .i64 9, .int .i64 a, .agg #[.int .u64 x1, .int .u64 x2], .agg #[.int .u64 y1, .int .u64 y2]] w _
    go_enter Try.func24, Try.ntmps24
    go_upto_region 2 with (go_at_call 21; refine (mask_any _ _).mono ?_; rintro e w' ⟨rfl, rfl⟩)
    have hB : Below w.heap.size w (((((w.alloc (.cells #[.int .i64 a] 3)).alloc (.cells #[.int .u64 x1, .int .u64 x2] 24)).alloc (.cells #[.int .u64 y1, .int .u64 y2] 24)).alloc (.cells Sn.Z4 43)).alloc (.cells #[.int .u64 (Wd.msk a)] 22)) := ((((((Below.refl _ _).alloc (Nat.le_refl _) _).alloc (by simp) _).alloc (by simp; omega) _).alloc (by simp; omega) _).alloc (by simp; omega) _)
    have hr0 : Sn.Bk (((((w.alloc (.cells #[.int .i64 a] 3)).alloc (.cells #[.int .u64 x1, .int .u64 x2] 24)).alloc (.cells #[.int .u64 y1, .int .u64 y2] 24)).alloc (.cells Sn.Z4 43)).alloc (.cells #[.int .u64 (Wd.msk a)] 22)) (w.heap.size) 3 #[.int .i64 a] := Sn.bk_old (Sn.bk_old (Sn.bk_old (Sn.bk_old (Sn.bk_new _ _ _) _) _) _) _
    have hr1 : Sn.Bk (((((w.alloc (.cells #[.int .i64 a] 3)).alloc (.cells #[.int .u64 x1, .int .u64 x2] 24)).alloc (.cells #[.int .u64 y1, .int .u64 y2] 24)).alloc (.cells Sn.Z4 43)).alloc (.cells #[.int .u64 (Wd.msk a)] 22)) (w.heap.size + 1) 24 #[.int .u64 x1, .int .u64 x2] := Sn.bk_old (Sn.bk_old (Sn.bk_old (Sn.bk_at (by simp)) _) _) _
    have hr2 : Sn.Bk (((((w.alloc (.cells #[.int .i64 a] 3)).alloc (.cells #[.int .u64 x1, .int .u64 x2] 24)).alloc (.cells #[.int .u64 y1, .int .u64 y2] 24)).alloc (.cells Sn.Z4 43)).alloc (.cells #[.int .u64 (Wd.msk a)] 22)) (w.heap.size + 1 + 1) 24 #[.int .u64 y1, .int .u64 y2] := Sn.bk_old (Sn.bk_old (Sn.bk_at (by simp)) _) _
    have hr3 : Sn.Bk (((((w.alloc (.cells #[.int .i64 a] 3)).alloc (.cells #[.int .u64 x1, .int .u64 x2] 24)).alloc (.cells #[.int .u64 y1, .int .u64 y2] 24)).alloc (.cells Sn.Z4 43)).alloc (.cells #[.int .u64 (Wd.msk a)] 22)) (w.heap.size + 1 + 1 + 1) 43 Sn.Z4 := Sn.bk_old (Sn.bk_at (by simp)) _
    have hr4 : Sn.Bk (((((w.alloc (.cells #[.int .i64 a] 3)).alloc (.cells #[.int .u64 x1, .int .u64 x2] 24)).alloc (.cells #[.int .u64 y1, .int .u64 y2] 24)).alloc (.cells Sn.Z4 43)).alloc (.cells #[.int .u64 (Wd.msk a)] 22)) (w.heap.size + 1 + 1 + 1 + 1) 22 #[.int .u64 (Wd.msk a)] := Sn.bk_at (by simp)
    generalize (((((w.alloc (.cells #[.int .i64 a] 3)).alloc (.cells #[.int .u64 x1, .int .u64 x2] 24)).alloc (.cells #[.int .u64 y1, .int .u64 y2] 24)).alloc (.cells Sn.Z4 43)).alloc (.cells #[.int .u64 (Wd.msk a)] 22)) = v at *
    have HB := Lib.hid hB
    have HR0 := Lib.hid hr0
    have HR1 := Lib.hid hr1
    have HR2 := Lib.hid hr2
    have HR3 := Lib.hid hr3
    have HR4 := Lib.hid hr4
    clear hB hr0 hr1 hr2 hr3 hr4
    go_wp2_with fail
    refine qc_all (fun W => Below v.heap.size v W) (by kernel_rfl) (by kernel_rfl) (Below.refl _ _).drew ?_
    refine qc_take (.func (.func 47) #[] #[]) (by rfl) (fun W hW => ?_) ?_
    · (try dsimp only at hW)
      go_simp
    try simp only [List.getElem_toArray, List.getElem_cons_succ, List.getElem_cons_zero, Act.put, List.setIfInBounds_toArray, List.set_cons_zero, List.set_cons_succ]
    refine qc_take (.pointer (some ⟨w.heap.size + 1, 0, none⟩)) (by rfl) (fun W hW => ?_) ?_
    · (try dsimp only at hW)
      go_simp
    try simp only [List.getElem_toArray, List.getElem_cons_succ, List.getElem_cons_zero, Act.put, List.setIfInBounds_toArray, List.set_cons_zero, List.set_cons_succ]
    refine qc_take (.int .u64 x1) (by rfl) (fun W hW => ?_) ?_
    · (try dsimp only at hW)
      have y := Sn.bk_below HR1.out hW (Sn.bk_lt HR1.out)
      have y0 := Sn.bk_c y 0
      have y1 := Sn.bk_c y 1
      simp only [List.getElem?_toArray, List.getElem?_cons_zero, List.getElem?_cons_succ] at y0 y1
      go_simp
    try simp only [List.getElem_toArray, List.getElem_cons_succ, List.getElem_cons_zero, Act.put, List.setIfInBounds_toArray, List.set_cons_zero, List.set_cons_succ]
    refine qc_take (.pointer (some ⟨w.heap.size + 1 + 1, 1, none⟩)) (by rfl) (fun W hW => ?_) ?_
    · (try dsimp only at hW)
      go_simp
    try simp only [List.getElem_toArray, List.getElem_cons_succ, List.getElem_cons_zero, Act.put, List.setIfInBounds_toArray, List.set_cons_zero, List.set_cons_succ]
    refine qc_take (.int .u64 y2) (by rfl) (fun W hW => ?_) ?_
    · (try dsimp only at hW)
      have y := Sn.bk_below HR2.out hW (Sn.bk_lt HR2.out)
      have y0 := Sn.bk_c y 0
      have y1 := Sn.bk_c y 1
      simp only [List.getElem?_toArray, List.getElem?_cons_zero, List.getElem?_cons_succ] at y0 y1
      go_simp
    try simp only [List.getElem_toArray, List.getElem_cons_succ, List.getElem_cons_zero, Act.put, List.setIfInBounds_toArray, List.set_cons_zero, List.set_cons_succ]
    refine qc_take (.bool false) (by rfl) (fun W hW => ?_) ?_
    · (try dsimp only at hW)
      go_simp
      have hh := isCut2_any x1 y2 W
      rw [show decide (y2 > x1) = false by simp; omega] at hh
      exact hh.mono fun e w9 h9 => ⟨h9.1, h9.2 ▸ hW⟩
    try simp only [List.getElem_toArray, List.getElem_cons_succ, List.getElem_cons_zero, Act.put, List.setIfInBounds_toArray, List.set_cons_zero, List.set_cons_succ]
    refine qc_take (.func (.func 47) #[] #[]) (by rfl) (fun W hW => ?_) ?_
    · (try dsimp only at hW)
      go_simp
    try simp only [List.getElem_toArray, List.getElem_cons_succ, List.getElem_cons_zero, Act.put, List.setIfInBounds_toArray, List.set_cons_zero, List.set_cons_succ]
    refine qc_take (.pointer (some ⟨w.heap.size + 1, 1, none⟩)) (by rfl) (fun W hW => ?_) ?_
    · (try dsimp only at hW)
      go_simp
    try simp only [List.getElem_toArray, List.getElem_cons_succ, List.getElem_cons_zero, Act.put, List.setIfInBounds_toArray, List.set_cons_zero, List.set_cons_succ]
    refine qc_take (.int .u64 x2) (by rfl) (fun W hW => ?_) ?_
    · (try dsimp only at hW)
      have y := Sn.bk_below HR1.out hW (Sn.bk_lt HR1.out)
      have y0 := Sn.bk_c y 0
      have y1 := Sn.bk_c y 1
      simp only [List.getElem?_toArray, List.getElem?_cons_zero, List.getElem?_cons_succ] at y0 y1
      go_simp
    try simp only [List.getElem_toArray, List.getElem_cons_succ, List.getElem_cons_zero, Act.put, List.setIfInBounds_toArray, List.set_cons_zero, List.set_cons_succ]
    refine qc_take (.pointer (some ⟨w.heap.size + 1 + 1, 0, none⟩)) (by rfl) (fun W hW => ?_) ?_
    · (try dsimp only at hW)
      go_simp
    try simp only [List.getElem_toArray, List.getElem_cons_succ, List.getElem_cons_zero, Act.put, List.setIfInBounds_toArray, List.set_cons_zero, List.set_cons_succ]
    refine qc_take (.int .u64 y1) (by rfl) (fun W hW => ?_) ?_
    · (try dsimp only at hW)
      have y := Sn.bk_below HR2.out hW (Sn.bk_lt HR2.out)
      have y0 := Sn.bk_c y 0
      have y1 := Sn.bk_c y 1
      simp only [List.getElem?_toArray, List.getElem?_cons_zero, List.getElem?_cons_succ] at y0 y1
      go_simp
    try simp only [List.getElem_toArray, List.getElem_cons_succ, List.getElem_cons_zero, Act.put, List.setIfInBounds_toArray, List.set_cons_zero, List.set_cons_succ]
    refine qc_take (.bool false) (by rfl) (fun W hW => ?_) ?_
    · (try dsimp only at hW)
      go_simp
      have hh := isCut2_any x2 y1 W
      rw [show decide (y1 > x2) = false by simp; omega] at hh
      exact hh.mono fun e w9 h9 => ⟨h9.1, h9.2 ▸ hW⟩
    try simp only [List.getElem_toArray, List.getElem_cons_succ, List.getElem_cons_zero, Act.put, List.setIfInBounds_toArray, List.set_cons_zero, List.set_cons_succ]
    refine qc_take (.bool true) (by rfl) (fun W hW => ?_) ?_
    · (try dsimp only at hW)
      go_simp
    try simp only [List.getElem_toArray, List.getElem_cons_succ, List.getElem_cons_zero, Act.put, List.setIfInBounds_toArray, List.set_cons_zero, List.set_cons_succ]
    refine qc_take (.bool true) (by rfl) (fun W hW => ?_) ?_
    · (try dsimp only at hW)
      go_simp
    try simp only [List.getElem_toArray, List.getElem_cons_succ, List.getElem_cons_zero, Act.put, List.setIfInBounds_toArray, List.set_cons_zero, List.set_cons_succ]
    refine wpQuiet_nil ?_
    intro v2 hb
    have hr0 := Sn.bk_below HR0.out hb (Sn.bk_lt HR0.out)
    have hr3 := Sn.bk_below HR3.out hb (Sn.bk_lt HR3.out)
    have hB := Sn.below_next HB.out hb HB.out.size
    clear HB HR0 HR3 hb
    have HB := Lib.hid hB
    have HR0 := Lib.hid hr0
    have HR3 := Lib.hid hr3
    clear hB hr0 hr3
    clear HR1 HR2 HR4 v
    rename World => v
    go_wp2_with fail
    refine (crossing_any true 49 #[Sn.pt w.heap.size] _).mono ?_
    rintro e v4 ⟨rfl, hb⟩
    have hr0 := Sn.bk_below HR0.out hb (Sn.bk_lt HR0.out)
    have hr3 := Sn.bk_below HR3.out hb (Sn.bk_lt HR3.out)
    have hB := Sn.below_next HB.out hb HB.out.size
    clear HB HR0 HR3 hb
    have HB := Lib.hid hB
    have HR0 := Lib.hid hr0
    have HR3 := Lib.hid hr3
    clear hB hr0 hr3
    have H1C := Lib.hid (show (#[.bool true, .func (.func 49) #[] #[Sn.pt w.heap.size], .func (.func 49) #[] #[Sn.pt w.heap.size], .bool true] : Array Value).all (·.oneCell') = true from by simp [Value.oneCell'])
    go_wp2_with (with_reducible refine Sn.store_rl (.tmp 8) (.tmp 56) (w.heap.size + 1 + 1 + 1) Sn.Z4 #[.bool true, .func (.func 49) #[] #[Sn.pt w.heap.size], .func (.func 49) #[] #[Sn.pt w.heap.size], .bool true] HR3.out rfl rfl rfl rfl rfl rfl H1C.out ?_)
    refine Sn.ret_rl (w.heap.size + 1 + 1 + 1) _ (Sn.bk_row HR3.out _) rfl rfl rfl rfl ?_
    refine ⟨_, rfl, fun W hW => ?_, Sn.below_set HB.out (by omega) _⟩
    exact rspan_t 49 49 #[Sn.pt w.heap.size] #[Sn.pt w.heap.size] a (x1, x2) (y1, y2) (Wd.cut a (x1 - y2)) (Wd.cut a (x2 - y1)) W (fun args W => by simp [go_sem]) (fun args W => by simp [go_sem])
      (fun W2 h2 => by rw [Sn.app1]; have hr := Sn.bk_below (Sn.bk_below (Sn.bk_row_other HR0.out (show w.heap.size ≠ w.heap.size + 1 + 1 + 1 by omega) _) hW (Sn.bk_lt (Sn.bk_row_other HR0.out (show w.heap.size ≠ w.heap.size + 1 + 1 + 1 by omega) _))) h2 (Sn.bk_lt (Sn.bk_below (Sn.bk_row_other HR0.out (show w.heap.size ≠ w.heap.size + 1 + 1 + 1 by omega) _) hW (Sn.bk_lt (Sn.bk_row_other HR0.out (show w.heap.size ≠ w.heap.size + 1 + 1 + 1 by omega) _)))); exact subc_any x1 y2 w.heap.size a W2 (Sn.bk_c hr 0))
      (fun W2 h2 => by rw [Sn.app1]; have hr := Sn.bk_below (Sn.bk_below (Sn.bk_row_other HR0.out (show w.heap.size ≠ w.heap.size + 1 + 1 + 1 by omega) _) hW (Sn.bk_lt (Sn.bk_row_other HR0.out (show w.heap.size ≠ w.heap.size + 1 + 1 + 1 by omega) _))) h2 (Sn.bk_lt (Sn.bk_below (Sn.bk_row_other HR0.out (show w.heap.size ≠ w.heap.size + 1 + 1 + 1 by omega) _) hW (Sn.bk_lt (Sn.bk_row_other HR0.out (show w.heap.size ≠ w.heap.size + 1 + 1 + 1 by omega) _)))); exact subc_any x2 y1 w.heap.size a W2 (Sn.bk_c hr 0))

set_option maxHeartbeats 6400000 in
theorem number_mul (op a : Int) (x y : Sn.S) (hop : op = 10) (hx : Sn.Ok a x) (hy : Sn.Ok a y) (w : World) :
    Calls Try.prog 24 #[.int .i64 op, .int .i64 a, Sn.v x, Sn.v y] w fun e w' => ∃ r, e = .returned r ∧ Sn.For w' r a x y (Sn.tab op a x y) ∧ Below w.heap.size w w' := by
  subst hop
  obtain ⟨x1, x2⟩ := x
  obtain ⟨y1, y2⟩ := y
  have hm := Wd.msk_hi a
  have hx2 := hx
  have hy2 := hy
  unfold Sn.Ok at hx2 hy2
  dsimp only at hx2 hy2
  have hn := Int.mul_nonneg (show 0 ≤ x2 by omega) (show 0 ≤ y2 by omega)
  have ht := Sn.mul_mono x1 x2 y1 y2 (by omega) (by omega) (by omega) (by omega)
  have hz := Int.mul_nonneg (show 0 ≤ x1 by omega) (show 0 ≤ y1 by omega)
  by_cases g1 : x2 * y2 ≤ Wd.msk a
  · rw [Sn.mul_yes g1]
    have d0 : (x2 * y2 / 18446744073709551616 == 0) = true := by simp; omega
    have d1 : decide (x2 * y2 % 18446744073709551616 ≤ Wd.msk a) = true := by simp; omega
    show Calls Try.prog 24 #[.int .i64 10, .int .i64 a, .agg #[.int .u64 x1, .int .u64 x2], .agg #[.int .u64 y1, .int .u64 y2]] w _
    go_enter Try.func24, Try.ntmps24
    go_upto_region 2 with (go_at_call 21; refine (mask_any _ _).mono ?_; rintro e w' ⟨rfl, rfl⟩)
    have hB : Below w.heap.size w (((((w.alloc (.cells #[.int .i64 a] 3)).alloc (.cells #[.int .u64 x1, .int .u64 x2] 24)).alloc (.cells #[.int .u64 y1, .int .u64 y2] 24)).alloc (.cells Sn.Z4 43)).alloc (.cells #[.int .u64 (Wd.msk a)] 22)) := ((((((Below.refl _ _).alloc (Nat.le_refl _) _).alloc (by simp) _).alloc (by simp; omega) _).alloc (by simp; omega) _).alloc (by simp; omega) _)
    have hr0 : Sn.Bk (((((w.alloc (.cells #[.int .i64 a] 3)).alloc (.cells #[.int .u64 x1, .int .u64 x2] 24)).alloc (.cells #[.int .u64 y1, .int .u64 y2] 24)).alloc (.cells Sn.Z4 43)).alloc (.cells #[.int .u64 (Wd.msk a)] 22)) (w.heap.size) 3 #[.int .i64 a] := Sn.bk_old (Sn.bk_old (Sn.bk_old (Sn.bk_old (Sn.bk_new _ _ _) _) _) _) _
    have hr1 : Sn.Bk (((((w.alloc (.cells #[.int .i64 a] 3)).alloc (.cells #[.int .u64 x1, .int .u64 x2] 24)).alloc (.cells #[.int .u64 y1, .int .u64 y2] 24)).alloc (.cells Sn.Z4 43)).alloc (.cells #[.int .u64 (Wd.msk a)] 22)) (w.heap.size + 1) 24 #[.int .u64 x1, .int .u64 x2] := Sn.bk_old (Sn.bk_old (Sn.bk_old (Sn.bk_at (by simp)) _) _) _
    have hr2 : Sn.Bk (((((w.alloc (.cells #[.int .i64 a] 3)).alloc (.cells #[.int .u64 x1, .int .u64 x2] 24)).alloc (.cells #[.int .u64 y1, .int .u64 y2] 24)).alloc (.cells Sn.Z4 43)).alloc (.cells #[.int .u64 (Wd.msk a)] 22)) (w.heap.size + 1 + 1) 24 #[.int .u64 y1, .int .u64 y2] := Sn.bk_old (Sn.bk_old (Sn.bk_at (by simp)) _) _
    have hr3 : Sn.Bk (((((w.alloc (.cells #[.int .i64 a] 3)).alloc (.cells #[.int .u64 x1, .int .u64 x2] 24)).alloc (.cells #[.int .u64 y1, .int .u64 y2] 24)).alloc (.cells Sn.Z4 43)).alloc (.cells #[.int .u64 (Wd.msk a)] 22)) (w.heap.size + 1 + 1 + 1) 43 Sn.Z4 := Sn.bk_old (Sn.bk_at (by simp)) _
    have hr4 : Sn.Bk (((((w.alloc (.cells #[.int .i64 a] 3)).alloc (.cells #[.int .u64 x1, .int .u64 x2] 24)).alloc (.cells #[.int .u64 y1, .int .u64 y2] 24)).alloc (.cells Sn.Z4 43)).alloc (.cells #[.int .u64 (Wd.msk a)] 22)) (w.heap.size + 1 + 1 + 1 + 1) 22 #[.int .u64 (Wd.msk a)] := Sn.bk_at (by simp)
    generalize (((((w.alloc (.cells #[.int .i64 a] 3)).alloc (.cells #[.int .u64 x1, .int .u64 x2] 24)).alloc (.cells #[.int .u64 y1, .int .u64 y2] 24)).alloc (.cells Sn.Z4 43)).alloc (.cells #[.int .u64 (Wd.msk a)] 22)) = v at *
    have HB := Lib.hid hB
    have HR0 := Lib.hid hr0
    have HR1 := Lib.hid hr1
    have HR2 := Lib.hid hr2
    have HR3 := Lib.hid hr3
    have HR4 := Lib.hid hr4
    clear hB hr0 hr1 hr2 hr3 hr4
    have c1_0 := Sn.bk_c HR1.out 0
    have c1_1 := Sn.bk_c HR1.out 1
    have c2_0 := Sn.bk_c HR2.out 0
    have c2_1 := Sn.bk_c HR2.out 1
    have c4_0 := Sn.bk_c HR4.out 0
    simp only [List.getElem?_toArray, List.getElem?_cons_zero, List.getElem?_cons_succ] at c1_0 c1_1 c2_0 c2_1 c4_0
    go_wp2_with (go_at_call 50; refine (Sn.mul_any _ _ _ (by omega) (by omega) (by omega) (by omega)).mono ?_; rintro e w9 ⟨rfl, rfl⟩)
    rename World => v
    clear c1_0 c1_1 c2_0 c2_1 c4_0
    refine (rising_any true 51 #[] _).mono ?_
    rintro e v4 ⟨rfl, hb⟩
    have hr0 := Sn.bk_below HR0.out hb (Sn.bk_lt HR0.out)
    have hr3 := Sn.bk_below HR3.out hb (Sn.bk_lt HR3.out)
    have hB := Sn.below_next HB.out hb HB.out.size
    clear HB HR0 HR3 hb
    have HB := Lib.hid hB
    have HR0 := Lib.hid hr0
    have HR3 := Lib.hid hr3
    clear hB hr0 hr3
    have H1C := Lib.hid (show (#[.bool true, .func (.func 51) #[] #[], .func (.func 51) #[] #[], .bool false] : Array Value).all (·.oneCell') = true from by simp [Value.oneCell'])
    go_wp2_with (with_reducible refine Sn.store_rl (.tmp 8) (.tmp 75) (w.heap.size + 1 + 1 + 1) Sn.Z4 #[.bool true, .func (.func 51) #[] #[], .func (.func 51) #[] #[], .bool false] HR3.out rfl rfl rfl rfl rfl rfl H1C.out ?_)
    refine Sn.ret_rl (w.heap.size + 1 + 1 + 1) _ (Sn.bk_row HR3.out _) rfl rfl rfl rfl ?_
    refine ⟨_, rfl, fun W hW => ?_, Sn.below_set HB.out (by omega) _⟩
    exact rspan_f 51 51 #[] #[] a (x1, x2) (y1, y2) (x1 * y1) (x2 * y2) W (fun args W => by simp [go_sem]) (fun args W => by simp [go_sem])
      (fun W2 h2 => by rw [Sn.app0]; exact mulc_any x1 y1 hz (by omega) W2)
      (fun W2 h2 => by rw [Sn.app0]; exact mulc_any x2 y2 hn (by omega) W2)
  · by_cases g2 : x2 * y2 < 18446744073709551616
    · rw [Sn.mul_no g1]
      have d0 : (x2 * y2 / 18446744073709551616 == 0) = true := by simp; omega
      have d1 : decide (x2 * y2 % 18446744073709551616 ≤ Wd.msk a) = false := by simp; omega
      show Calls Try.prog 24 #[.int .i64 10, .int .i64 a, .agg #[.int .u64 x1, .int .u64 x2], .agg #[.int .u64 y1, .int .u64 y2]] w _
      go_enter Try.func24, Try.ntmps24
      go_upto_region 2 with (go_at_call 21; refine (mask_any _ _).mono ?_; rintro e w' ⟨rfl, rfl⟩)
      have hB : Below w.heap.size w (((((w.alloc (.cells #[.int .i64 a] 3)).alloc (.cells #[.int .u64 x1, .int .u64 x2] 24)).alloc (.cells #[.int .u64 y1, .int .u64 y2] 24)).alloc (.cells Sn.Z4 43)).alloc (.cells #[.int .u64 (Wd.msk a)] 22)) := ((((((Below.refl _ _).alloc (Nat.le_refl _) _).alloc (by simp) _).alloc (by simp; omega) _).alloc (by simp; omega) _).alloc (by simp; omega) _)
      have hr0 : Sn.Bk (((((w.alloc (.cells #[.int .i64 a] 3)).alloc (.cells #[.int .u64 x1, .int .u64 x2] 24)).alloc (.cells #[.int .u64 y1, .int .u64 y2] 24)).alloc (.cells Sn.Z4 43)).alloc (.cells #[.int .u64 (Wd.msk a)] 22)) (w.heap.size) 3 #[.int .i64 a] := Sn.bk_old (Sn.bk_old (Sn.bk_old (Sn.bk_old (Sn.bk_new _ _ _) _) _) _) _
      have hr1 : Sn.Bk (((((w.alloc (.cells #[.int .i64 a] 3)).alloc (.cells #[.int .u64 x1, .int .u64 x2] 24)).alloc (.cells #[.int .u64 y1, .int .u64 y2] 24)).alloc (.cells Sn.Z4 43)).alloc (.cells #[.int .u64 (Wd.msk a)] 22)) (w.heap.size + 1) 24 #[.int .u64 x1, .int .u64 x2] := Sn.bk_old (Sn.bk_old (Sn.bk_old (Sn.bk_at (by simp)) _) _) _
      have hr2 : Sn.Bk (((((w.alloc (.cells #[.int .i64 a] 3)).alloc (.cells #[.int .u64 x1, .int .u64 x2] 24)).alloc (.cells #[.int .u64 y1, .int .u64 y2] 24)).alloc (.cells Sn.Z4 43)).alloc (.cells #[.int .u64 (Wd.msk a)] 22)) (w.heap.size + 1 + 1) 24 #[.int .u64 y1, .int .u64 y2] := Sn.bk_old (Sn.bk_old (Sn.bk_at (by simp)) _) _
      have hr3 : Sn.Bk (((((w.alloc (.cells #[.int .i64 a] 3)).alloc (.cells #[.int .u64 x1, .int .u64 x2] 24)).alloc (.cells #[.int .u64 y1, .int .u64 y2] 24)).alloc (.cells Sn.Z4 43)).alloc (.cells #[.int .u64 (Wd.msk a)] 22)) (w.heap.size + 1 + 1 + 1) 43 Sn.Z4 := Sn.bk_old (Sn.bk_at (by simp)) _
      have hr4 : Sn.Bk (((((w.alloc (.cells #[.int .i64 a] 3)).alloc (.cells #[.int .u64 x1, .int .u64 x2] 24)).alloc (.cells #[.int .u64 y1, .int .u64 y2] 24)).alloc (.cells Sn.Z4 43)).alloc (.cells #[.int .u64 (Wd.msk a)] 22)) (w.heap.size + 1 + 1 + 1 + 1) 22 #[.int .u64 (Wd.msk a)] := Sn.bk_at (by simp)
      generalize (((((w.alloc (.cells #[.int .i64 a] 3)).alloc (.cells #[.int .u64 x1, .int .u64 x2] 24)).alloc (.cells #[.int .u64 y1, .int .u64 y2] 24)).alloc (.cells Sn.Z4 43)).alloc (.cells #[.int .u64 (Wd.msk a)] 22)) = v at *
      have HB := Lib.hid hB
      have HR0 := Lib.hid hr0
      have HR1 := Lib.hid hr1
      have HR2 := Lib.hid hr2
      have HR3 := Lib.hid hr3
      have HR4 := Lib.hid hr4
      clear hB hr0 hr1 hr2 hr3 hr4
      have c1_0 := Sn.bk_c HR1.out 0
      have c1_1 := Sn.bk_c HR1.out 1
      have c2_0 := Sn.bk_c HR2.out 0
      have c2_1 := Sn.bk_c HR2.out 1
      have c4_0 := Sn.bk_c HR4.out 0
      simp only [List.getElem?_toArray, List.getElem?_cons_zero, List.getElem?_cons_succ] at c1_0 c1_1 c2_0 c2_1 c4_0
      go_wp2_with (go_at_call 50; refine (Sn.mul_any _ _ _ (by omega) (by omega) (by omega) (by omega)).mono ?_; rintro e w9 ⟨rfl, rfl⟩)
      rename World => v
      clear c1_0 c1_1 c2_0 c2_1 c4_0
      refine (rising_any false 51 #[] _).mono ?_
      rintro e v4 ⟨rfl, hb⟩
      have hr0 := Sn.bk_below HR0.out hb (Sn.bk_lt HR0.out)
      have hr3 := Sn.bk_below HR3.out hb (Sn.bk_lt HR3.out)
      have hB := Sn.below_next HB.out hb HB.out.size
      clear HB HR0 HR3 hb
      have HB := Lib.hid hB
      have HR0 := Lib.hid hr0
      have HR3 := Lib.hid hr3
      clear hB hr0 hr3
      have H1C := Lib.hid (show (#[.bool false, .func (.func 51) #[] #[], .func (.func 51) #[] #[], .bool false] : Array Value).all (·.oneCell') = true from by simp [Value.oneCell'])
      go_wp2_with (with_reducible refine Sn.store_rl (.tmp 8) (.tmp 75) (w.heap.size + 1 + 1 + 1) Sn.Z4 #[.bool false, .func (.func 51) #[] #[], .func (.func 51) #[] #[], .bool false] HR3.out rfl rfl rfl rfl rfl rfl H1C.out ?_)
      refine Sn.ret_rl (w.heap.size + 1 + 1 + 1) _ (Sn.bk_row HR3.out _) rfl rfl rfl rfl ?_
      refine ⟨_, rfl, fun W hW => ?_, Sn.below_set HB.out (by omega) _⟩
      exact rspan_no false 51 51 #[] #[] a (x1, x2) (y1, y2) W
    · rw [Sn.mul_no g1]
      have d0 : (x2 * y2 / 18446744073709551616 == 0) = false := by simp; omega
      show Calls Try.prog 24 #[.int .i64 10, .int .i64 a, .agg #[.int .u64 x1, .int .u64 x2], .agg #[.int .u64 y1, .int .u64 y2]] w _
      go_enter Try.func24, Try.ntmps24
      go_upto_region 2 with (go_at_call 21; refine (mask_any _ _).mono ?_; rintro e w' ⟨rfl, rfl⟩)
      have hB : Below w.heap.size w (((((w.alloc (.cells #[.int .i64 a] 3)).alloc (.cells #[.int .u64 x1, .int .u64 x2] 24)).alloc (.cells #[.int .u64 y1, .int .u64 y2] 24)).alloc (.cells Sn.Z4 43)).alloc (.cells #[.int .u64 (Wd.msk a)] 22)) := ((((((Below.refl _ _).alloc (Nat.le_refl _) _).alloc (by simp) _).alloc (by simp; omega) _).alloc (by simp; omega) _).alloc (by simp; omega) _)
      have hr0 : Sn.Bk (((((w.alloc (.cells #[.int .i64 a] 3)).alloc (.cells #[.int .u64 x1, .int .u64 x2] 24)).alloc (.cells #[.int .u64 y1, .int .u64 y2] 24)).alloc (.cells Sn.Z4 43)).alloc (.cells #[.int .u64 (Wd.msk a)] 22)) (w.heap.size) 3 #[.int .i64 a] := Sn.bk_old (Sn.bk_old (Sn.bk_old (Sn.bk_old (Sn.bk_new _ _ _) _) _) _) _
      have hr1 : Sn.Bk (((((w.alloc (.cells #[.int .i64 a] 3)).alloc (.cells #[.int .u64 x1, .int .u64 x2] 24)).alloc (.cells #[.int .u64 y1, .int .u64 y2] 24)).alloc (.cells Sn.Z4 43)).alloc (.cells #[.int .u64 (Wd.msk a)] 22)) (w.heap.size + 1) 24 #[.int .u64 x1, .int .u64 x2] := Sn.bk_old (Sn.bk_old (Sn.bk_old (Sn.bk_at (by simp)) _) _) _
      have hr2 : Sn.Bk (((((w.alloc (.cells #[.int .i64 a] 3)).alloc (.cells #[.int .u64 x1, .int .u64 x2] 24)).alloc (.cells #[.int .u64 y1, .int .u64 y2] 24)).alloc (.cells Sn.Z4 43)).alloc (.cells #[.int .u64 (Wd.msk a)] 22)) (w.heap.size + 1 + 1) 24 #[.int .u64 y1, .int .u64 y2] := Sn.bk_old (Sn.bk_old (Sn.bk_at (by simp)) _) _
      have hr3 : Sn.Bk (((((w.alloc (.cells #[.int .i64 a] 3)).alloc (.cells #[.int .u64 x1, .int .u64 x2] 24)).alloc (.cells #[.int .u64 y1, .int .u64 y2] 24)).alloc (.cells Sn.Z4 43)).alloc (.cells #[.int .u64 (Wd.msk a)] 22)) (w.heap.size + 1 + 1 + 1) 43 Sn.Z4 := Sn.bk_old (Sn.bk_at (by simp)) _
      have hr4 : Sn.Bk (((((w.alloc (.cells #[.int .i64 a] 3)).alloc (.cells #[.int .u64 x1, .int .u64 x2] 24)).alloc (.cells #[.int .u64 y1, .int .u64 y2] 24)).alloc (.cells Sn.Z4 43)).alloc (.cells #[.int .u64 (Wd.msk a)] 22)) (w.heap.size + 1 + 1 + 1 + 1) 22 #[.int .u64 (Wd.msk a)] := Sn.bk_at (by simp)
      generalize (((((w.alloc (.cells #[.int .i64 a] 3)).alloc (.cells #[.int .u64 x1, .int .u64 x2] 24)).alloc (.cells #[.int .u64 y1, .int .u64 y2] 24)).alloc (.cells Sn.Z4 43)).alloc (.cells #[.int .u64 (Wd.msk a)] 22)) = v at *
      have HB := Lib.hid hB
      have HR0 := Lib.hid hr0
      have HR1 := Lib.hid hr1
      have HR2 := Lib.hid hr2
      have HR3 := Lib.hid hr3
      have HR4 := Lib.hid hr4
      clear hB hr0 hr1 hr2 hr3 hr4
      have c1_0 := Sn.bk_c HR1.out 0
      have c1_1 := Sn.bk_c HR1.out 1
      have c2_0 := Sn.bk_c HR2.out 0
      have c2_1 := Sn.bk_c HR2.out 1
      have c4_0 := Sn.bk_c HR4.out 0
      simp only [List.getElem?_toArray, List.getElem?_cons_zero, List.getElem?_cons_succ] at c1_0 c1_1 c2_0 c2_1 c4_0
      go_wp2_with (go_at_call 50; refine (Sn.mul_any _ _ _ (by omega) (by omega) (by omega) (by omega)).mono ?_; rintro e w9 ⟨rfl, rfl⟩)
      rename World => v
      clear c1_0 c1_1 c2_0 c2_1 c4_0
      refine (rising_any false 51 #[] _).mono ?_
      rintro e v4 ⟨rfl, hb⟩
      have hr0 := Sn.bk_below HR0.out hb (Sn.bk_lt HR0.out)
      have hr3 := Sn.bk_below HR3.out hb (Sn.bk_lt HR3.out)
      have hB := Sn.below_next HB.out hb HB.out.size
      clear HB HR0 HR3 hb
      have HB := Lib.hid hB
      have HR0 := Lib.hid hr0
      have HR3 := Lib.hid hr3
      clear hB hr0 hr3
      have H1C := Lib.hid (show (#[.bool false, .func (.func 51) #[] #[], .func (.func 51) #[] #[], .bool false] : Array Value).all (·.oneCell') = true from by simp [Value.oneCell'])
      go_wp2_with (with_reducible refine Sn.store_rl (.tmp 8) (.tmp 75) (w.heap.size + 1 + 1 + 1) Sn.Z4 #[.bool false, .func (.func 51) #[] #[], .func (.func 51) #[] #[], .bool false] HR3.out rfl rfl rfl rfl rfl rfl H1C.out ?_)
      refine Sn.ret_rl (w.heap.size + 1 + 1 + 1) _ (Sn.bk_row HR3.out _) rfl rfl rfl rfl ?_
      refine ⟨_, rfl, fun W hW => ?_, Sn.below_set HB.out (by omega) _⟩
      exact rspan_no false 51 51 #[] #[] a (x1, x2) (y1, y2) W

set_option maxHeartbeats 6400000 in
theorem number_div (op a : Int) (x y : Sn.S) (hop : op = 11) (hx : Sn.Ok a x) (hy : Sn.Ok a y) (w : World) :
    Calls Try.prog 24 #[.int .i64 op, .int .i64 a, Sn.v x, Sn.v y] w fun e w' => ∃ r, e = .returned r ∧ Sn.For w' r a x y (Sn.tab op a x y) ∧ Below w.heap.size w w' := by
  subst hop
  obtain ⟨x1, x2⟩ := x
  obtain ⟨y1, y2⟩ := y
  have hm := Wd.msk_hi a
  have hx2 := hx
  have hy2 := hy
  unfold Sn.Ok at hx2 hy2
  dsimp only at hx2 hy2
  by_cases g1 : y1 = 0
  · subst g1
    rw [Sn.div_no]
    show Calls Try.prog 24 #[.int .i64 11, .int .i64 a, .agg #[.int .u64 x1, .int .u64 x2], .agg #[.int .u64 0, .int .u64 y2]] w _
    go_enter Try.func24, Try.ntmps24
    go_upto_region 2 with (go_at_call 21; refine (mask_any _ _).mono ?_; rintro e w' ⟨rfl, rfl⟩)
    have hB : Below w.heap.size w (((((w.alloc (.cells #[.int .i64 a] 3)).alloc (.cells #[.int .u64 x1, .int .u64 x2] 24)).alloc (.cells #[.int .u64 0, .int .u64 y2] 24)).alloc (.cells Sn.Z4 43)).alloc (.cells #[.int .u64 (Wd.msk a)] 22)) := ((((((Below.refl _ _).alloc (Nat.le_refl _) _).alloc (by simp) _).alloc (by simp; omega) _).alloc (by simp; omega) _).alloc (by simp; omega) _)
    have hr0 : Sn.Bk (((((w.alloc (.cells #[.int .i64 a] 3)).alloc (.cells #[.int .u64 x1, .int .u64 x2] 24)).alloc (.cells #[.int .u64 0, .int .u64 y2] 24)).alloc (.cells Sn.Z4 43)).alloc (.cells #[.int .u64 (Wd.msk a)] 22)) (w.heap.size) 3 #[.int .i64 a] := Sn.bk_old (Sn.bk_old (Sn.bk_old (Sn.bk_old (Sn.bk_new _ _ _) _) _) _) _
    have hr1 : Sn.Bk (((((w.alloc (.cells #[.int .i64 a] 3)).alloc (.cells #[.int .u64 x1, .int .u64 x2] 24)).alloc (.cells #[.int .u64 0, .int .u64 y2] 24)).alloc (.cells Sn.Z4 43)).alloc (.cells #[.int .u64 (Wd.msk a)] 22)) (w.heap.size + 1) 24 #[.int .u64 x1, .int .u64 x2] := Sn.bk_old (Sn.bk_old (Sn.bk_old (Sn.bk_at (by simp)) _) _) _
    have hr2 : Sn.Bk (((((w.alloc (.cells #[.int .i64 a] 3)).alloc (.cells #[.int .u64 x1, .int .u64 x2] 24)).alloc (.cells #[.int .u64 0, .int .u64 y2] 24)).alloc (.cells Sn.Z4 43)).alloc (.cells #[.int .u64 (Wd.msk a)] 22)) (w.heap.size + 1 + 1) 24 #[.int .u64 0, .int .u64 y2] := Sn.bk_old (Sn.bk_old (Sn.bk_at (by simp)) _) _
    have hr3 : Sn.Bk (((((w.alloc (.cells #[.int .i64 a] 3)).alloc (.cells #[.int .u64 x1, .int .u64 x2] 24)).alloc (.cells #[.int .u64 0, .int .u64 y2] 24)).alloc (.cells Sn.Z4 43)).alloc (.cells #[.int .u64 (Wd.msk a)] 22)) (w.heap.size + 1 + 1 + 1) 43 Sn.Z4 := Sn.bk_old (Sn.bk_at (by simp)) _
    have hr4 : Sn.Bk (((((w.alloc (.cells #[.int .i64 a] 3)).alloc (.cells #[.int .u64 x1, .int .u64 x2] 24)).alloc (.cells #[.int .u64 0, .int .u64 y2] 24)).alloc (.cells Sn.Z4 43)).alloc (.cells #[.int .u64 (Wd.msk a)] 22)) (w.heap.size + 1 + 1 + 1 + 1) 22 #[.int .u64 (Wd.msk a)] := Sn.bk_at (by simp)
    generalize (((((w.alloc (.cells #[.int .i64 a] 3)).alloc (.cells #[.int .u64 x1, .int .u64 x2] 24)).alloc (.cells #[.int .u64 0, .int .u64 y2] 24)).alloc (.cells Sn.Z4 43)).alloc (.cells #[.int .u64 (Wd.msk a)] 22)) = v at *
    have HB := Lib.hid hB
    have HR0 := Lib.hid hr0
    have HR1 := Lib.hid hr1
    have HR2 := Lib.hid hr2
    have HR3 := Lib.hid hr3
    have HR4 := Lib.hid hr4
    clear hB hr0 hr1 hr2 hr3 hr4
    have c1_0 := Sn.bk_c HR1.out 0
    have c1_1 := Sn.bk_c HR1.out 1
    have c2_0 := Sn.bk_c HR2.out 0
    have c2_1 := Sn.bk_c HR2.out 1
    have c4_0 := Sn.bk_c HR4.out 0
    simp only [List.getElem?_toArray, List.getElem?_cons_zero, List.getElem?_cons_succ] at c1_0 c1_1 c2_0 c2_1 c4_0
    go_wp2_with fail
    clear c1_0 c1_1 c2_0 c2_1 c4_0
    refine (crossing_any false 52 #[] _).mono ?_
    rintro e v4 ⟨rfl, hb⟩
    have hr0 := Sn.bk_below HR0.out hb (Sn.bk_lt HR0.out)
    have hr3 := Sn.bk_below HR3.out hb (Sn.bk_lt HR3.out)
    have hB := Sn.below_next HB.out hb HB.out.size
    clear HB HR0 HR3 hb
    have HB := Lib.hid hB
    have HR0 := Lib.hid hr0
    have HR3 := Lib.hid hr3
    clear hB hr0 hr3
    have H1C := Lib.hid (show (#[.bool false, .func (.func 52) #[] #[], .func (.func 52) #[] #[], .bool true] : Array Value).all (·.oneCell') = true from by simp [Value.oneCell'])
    go_wp2_with (with_reducible refine Sn.store_rl (.tmp 8) (.tmp 79) (w.heap.size + 1 + 1 + 1) Sn.Z4 #[.bool false, .func (.func 52) #[] #[], .func (.func 52) #[] #[], .bool true] HR3.out rfl rfl rfl rfl rfl rfl H1C.out ?_)
    refine Sn.ret_rl (w.heap.size + 1 + 1 + 1) _ (Sn.bk_row HR3.out _) rfl rfl rfl rfl ?_
    refine ⟨_, rfl, fun W hW => ?_, Sn.below_set HB.out (by omega) _⟩
    exact rspan_no true 52 52 #[] #[] a (x1, x2) (0, y2) W
  · rw [Sn.div_yes g1]
    have d0 : (y1 != 0) = true := by simpa using g1
    show Calls Try.prog 24 #[.int .i64 11, .int .i64 a, .agg #[.int .u64 x1, .int .u64 x2], .agg #[.int .u64 y1, .int .u64 y2]] w _
    go_enter Try.func24, Try.ntmps24
    go_upto_region 2 with (go_at_call 21; refine (mask_any _ _).mono ?_; rintro e w' ⟨rfl, rfl⟩)
    have hB : Below w.heap.size w (((((w.alloc (.cells #[.int .i64 a] 3)).alloc (.cells #[.int .u64 x1, .int .u64 x2] 24)).alloc (.cells #[.int .u64 y1, .int .u64 y2] 24)).alloc (.cells Sn.Z4 43)).alloc (.cells #[.int .u64 (Wd.msk a)] 22)) := ((((((Below.refl _ _).alloc (Nat.le_refl _) _).alloc (by simp) _).alloc (by simp; omega) _).alloc (by simp; omega) _).alloc (by simp; omega) _)
    have hr0 : Sn.Bk (((((w.alloc (.cells #[.int .i64 a] 3)).alloc (.cells #[.int .u64 x1, .int .u64 x2] 24)).alloc (.cells #[.int .u64 y1, .int .u64 y2] 24)).alloc (.cells Sn.Z4 43)).alloc (.cells #[.int .u64 (Wd.msk a)] 22)) (w.heap.size) 3 #[.int .i64 a] := Sn.bk_old (Sn.bk_old (Sn.bk_old (Sn.bk_old (Sn.bk_new _ _ _) _) _) _) _
    have hr1 : Sn.Bk (((((w.alloc (.cells #[.int .i64 a] 3)).alloc (.cells #[.int .u64 x1, .int .u64 x2] 24)).alloc (.cells #[.int .u64 y1, .int .u64 y2] 24)).alloc (.cells Sn.Z4 43)).alloc (.cells #[.int .u64 (Wd.msk a)] 22)) (w.heap.size + 1) 24 #[.int .u64 x1, .int .u64 x2] := Sn.bk_old (Sn.bk_old (Sn.bk_old (Sn.bk_at (by simp)) _) _) _
    have hr2 : Sn.Bk (((((w.alloc (.cells #[.int .i64 a] 3)).alloc (.cells #[.int .u64 x1, .int .u64 x2] 24)).alloc (.cells #[.int .u64 y1, .int .u64 y2] 24)).alloc (.cells Sn.Z4 43)).alloc (.cells #[.int .u64 (Wd.msk a)] 22)) (w.heap.size + 1 + 1) 24 #[.int .u64 y1, .int .u64 y2] := Sn.bk_old (Sn.bk_old (Sn.bk_at (by simp)) _) _
    have hr3 : Sn.Bk (((((w.alloc (.cells #[.int .i64 a] 3)).alloc (.cells #[.int .u64 x1, .int .u64 x2] 24)).alloc (.cells #[.int .u64 y1, .int .u64 y2] 24)).alloc (.cells Sn.Z4 43)).alloc (.cells #[.int .u64 (Wd.msk a)] 22)) (w.heap.size + 1 + 1 + 1) 43 Sn.Z4 := Sn.bk_old (Sn.bk_at (by simp)) _
    have hr4 : Sn.Bk (((((w.alloc (.cells #[.int .i64 a] 3)).alloc (.cells #[.int .u64 x1, .int .u64 x2] 24)).alloc (.cells #[.int .u64 y1, .int .u64 y2] 24)).alloc (.cells Sn.Z4 43)).alloc (.cells #[.int .u64 (Wd.msk a)] 22)) (w.heap.size + 1 + 1 + 1 + 1) 22 #[.int .u64 (Wd.msk a)] := Sn.bk_at (by simp)
    generalize (((((w.alloc (.cells #[.int .i64 a] 3)).alloc (.cells #[.int .u64 x1, .int .u64 x2] 24)).alloc (.cells #[.int .u64 y1, .int .u64 y2] 24)).alloc (.cells Sn.Z4 43)).alloc (.cells #[.int .u64 (Wd.msk a)] 22)) = v at *
    have HB := Lib.hid hB
    have HR0 := Lib.hid hr0
    have HR1 := Lib.hid hr1
    have HR2 := Lib.hid hr2
    have HR3 := Lib.hid hr3
    have HR4 := Lib.hid hr4
    clear hB hr0 hr1 hr2 hr3 hr4
    have c1_0 := Sn.bk_c HR1.out 0
    have c1_1 := Sn.bk_c HR1.out 1
    have c2_0 := Sn.bk_c HR2.out 0
    have c2_1 := Sn.bk_c HR2.out 1
    have c4_0 := Sn.bk_c HR4.out 0
    simp only [List.getElem?_toArray, List.getElem?_cons_zero, List.getElem?_cons_succ] at c1_0 c1_1 c2_0 c2_1 c4_0
    go_wp2_with fail
    clear c1_0 c1_1 c2_0 c2_1 c4_0
    refine (crossing_any true 52 #[] _).mono ?_
    rintro e v4 ⟨rfl, hb⟩
    have hr0 := Sn.bk_below HR0.out hb (Sn.bk_lt HR0.out)
    have hr3 := Sn.bk_below HR3.out hb (Sn.bk_lt HR3.out)
    have hB := Sn.below_next HB.out hb HB.out.size
    clear HB HR0 HR3 hb
    have HB := Lib.hid hB
    have HR0 := Lib.hid hr0
    have HR3 := Lib.hid hr3
    clear hB hr0 hr3
    have H1C := Lib.hid (show (#[.bool true, .func (.func 52) #[] #[], .func (.func 52) #[] #[], .bool true] : Array Value).all (·.oneCell') = true from by simp [Value.oneCell'])
    go_wp2_with (with_reducible refine Sn.store_rl (.tmp 8) (.tmp 79) (w.heap.size + 1 + 1 + 1) Sn.Z4 #[.bool true, .func (.func 52) #[] #[], .func (.func 52) #[] #[], .bool true] HR3.out rfl rfl rfl rfl rfl rfl H1C.out ?_)
    refine Sn.ret_rl (w.heap.size + 1 + 1 + 1) _ (Sn.bk_row HR3.out _) rfl rfl rfl rfl ?_
    refine ⟨_, rfl, fun W hW => ?_, Sn.below_set HB.out (by omega) _⟩
    exact rspan_t 52 52 #[] #[] a (x1, x2) (y1, y2) (x1 / y2) (x2 / y1) W (fun args W => by simp [go_sem]) (fun args W => by simp [go_sem])
      (fun W2 h2 => by rw [Sn.app0]; exact divc_any x1 y2 (by omega) (by omega) (by omega) (by omega) (by omega) W2)
      (fun W2 h2 => by rw [Sn.app0]; exact divc_any x2 y1 (by omega) (by omega) (by omega) (by omega) (by omega) W2)

theorem number_any (op a : Int) (x y : Sn.S) (hop : op = 8 ∨ op = 9 ∨ op = 10 ∨ op = 11) (hx : Sn.Ok a x) (hy : Sn.Ok a y) (w : World) :
    Calls Try.prog 24 #[.int .i64 op, .int .i64 a, Sn.v x, Sn.v y] w fun e w' => ∃ r, e = .returned r ∧ Sn.For w' r a x y (Sn.tab op a x y) ∧ Below w.heap.size w w' := by
  rcases hop with h | h | h | h
  · exact number_add op a x y h hx hy w
  · exact number_sub op a x y h hx hy w
  · exact number_mul op a x y h hx hy w
  · exact number_div op a x y h hx hy w

end Go.Proofs.Ytbjckcjfambpoaa
