/-
  Layer 11: the rules of OpAdd, OpSub, OpMul, OpDiv.
-/
import Derived.Test.YtbjckcjfambpoaaSnW7
import Derived.Test.YtbjckcjfambpoaaSnP2
namespace Go.Proofs.Ytbjckcjfambpoaa
set_option linter.unusedSimpArgs false
set_option linter.unusedVariables false
open Go.RowKit Go.Maps
set_option maxRecDepth 100000

/-- What a rule makes of two spans, in whatever world behind w'. -/
def Sn.For (w' : World) (r : Value) (a : Int) (x y R : Sn.S) : Prop :=
  ∀ W, Below w'.heap.size w' W → Calls Try.prog 25 #[r, .int .i64 a, Sn.v x, Sn.v y] W fun e W' => e = .returned (Sn.v R) ∧ Below W.heap.size W W'
theorem Sn.app1 (p q c : Value) : (#[p, q] ++ #[c] : Array Value) = #[p, q, c] := by simp
theorem Sn.app0 (p q : Value) : (#[p, q] ++ #[] : Array Value) = #[p, q] := by simp
theorem Sn.ret_sm {f : FuncId} {w : World} {e : Ending} {w' : World} {v v' : Value} (h : e = .returned v ∧ w = w') (hv : v = v') : e = .returned v' ∧ w = w' := hv ▸ h

set_option maxHeartbeats 6400000 in
theorem number_add (op a : Int) (x y : Sn.S) (hop : op = 8) (hx : Sn.Ok a x) (hy : Sn.Ok a y) (w : World) :
    Calls Try.prog 24 #[.int .i64 op, .int .i64 a, Sn.v x, Sn.v y] w fun e w' => ∃ r, e = .returned r ∧ Sn.For w' r a x y (Sn.tab op a x y) ∧ Below w.heap.size w w' := by
  subst hop
  obtain ⟨x1, x2⟩ := x
  obtain ⟨y1, y2⟩ := y
  have hm := Wd.msk_hi a
  have hx2 := hx
  have hy2 := hy
  unfold Sn.Ok at hx2 hy2
  dsimp only at hx2 hy2
  by_cases g1 : y1 > Wd.msk a - x1
  · have g2 : y2 > Wd.msk a - x2 := by omega
    rw [Sn.add_cut hx hy g1]
    show Calls Try.prog 24 #[.int .i64 8, .int .i64 a, .agg #[.int .u64 x1, .int .u64 x2], .agg #[.int .u64 y1, .int .u64 y2]] w _
    have h8 : (8 == 8) = true := rfl
    go_enter Try.func24, Try.ntmps24
    go_upto_region 2 with (go_at_call 21; refine (mask_any _ _).mono ?_; rintro e w' ⟨rfl, rfl⟩)
    have hB : Below w.heap.size w (((((w.alloc (.cells #[.int .i64 a] 3)).alloc (.cells #[.int .u64 x1, .int .u64 x2] 24)).alloc (.cells #[.int .u64 y1, .int .u64 y2] 24)).alloc (.cells Sn.Z4 43)).alloc (.cells #[.int .u64 (Wd.msk a)] 22)) := ((((((Below.refl _ _).alloc (Nat.le_refl _) _).alloc (by simp) _).alloc (by simp; omega) _).alloc (by simp; omega) _).alloc (by simp; omega) _)
    have hr0 : Sn.Bk (((((w.alloc (.cells #[.int .i64 a] 3)).alloc (.cells #[.int .u64 x1, .int .u64 x2] 24)).alloc (.cells #[.int .u64 y1, .int .u64 y2] 24)).alloc (.cells Sn.Z4 43)).alloc (.cells #[.int .u64 (Wd.msk a)] 22)) (w.heap.size) 3 #[.int .i64 a] := Sn.bk_old (Sn.bk_old (Sn.bk_old (Sn.bk_old (Sn.bk_new _ _ _) _) _) _) _
    have hr1 : Sn.Bk (((((w.alloc (.cells #[.int .i64 a] 3)).alloc (.cells #[.int .u64 x1, .int .u64 x2] 24)).alloc (.cells #[.int .u64 y1, .int .u64 y2] 24)).alloc (.cells Sn.Z4 43)).alloc (.cells #[.int .u64 (Wd.msk a)] 22)) (w.heap.size + 1) 24 #[.int .u64 x1, .int .u64 x2] := Sn.bk_old (Sn.bk_old (Sn.bk_old (Sn.bk_at (by simp)) _) _) _
    have hr2 : Sn.Bk (((((w.alloc (.cells #[.int .i64 a] 3)).alloc (.cells #[.int .u64 x1, .int .u64 x2] 24)).alloc (.cells #[.int .u64 y1, .int .u64 y2] 24)).alloc (.cells Sn.Z4 43)).alloc (.cells #[.int .u64 (Wd.msk a)] 22)) (w.heap.size + 1 + 1) 24 #[.int .u64 y1, .int .u64 y2] := Sn.bk_old (Sn.bk_old (Sn.bk_at (by simp)) _) _
    have hr3 : Sn.Bk (((((w.alloc (.cells #[.int .i64 a] 3)).alloc (.cells #[.int .u64 x1, .int .u64 x2] 24)).alloc (.cells #[.int .u64 y1, .int .u64 y2] 24)).alloc (.cells Sn.Z4 43)).alloc (.cells #[.int .u64 (Wd.msk a)] 22)) (w.heap.size + 1 + 1 + 1) 43 Sn.Z4 := Sn.bk_old (Sn.bk_at (by simp)) _
    have hr4 : Sn.Bk (((((w.alloc (.cells #[.int .i64 a] 3)).alloc (.cells #[.int .u64 x1, .int .u64 x2] 24)).alloc (.cells #[.int .u64 y1, .int .u64 y2] 24)).alloc (.cells Sn.Z4 43)).alloc (.cells #[.int .u64 (Wd.msk a)] 22)) (w.heap.size + 1 + 1 + 1 + 1) 22 #[.int .u64 (Wd.msk a)] := Sn.bk_at (by simp)
    generalize (((((w.alloc (.cells #[.int .i64 a] 3)).alloc (.cells #[.int .u64 x1, .int .u64 x2] 24)).alloc (.cells #[.int .u64 y1, .int .u64 y2] 24)).alloc (.cells Sn.Z4 43)).alloc (.cells #[.int .u64 (Wd.msk a)] 22)) = v at *
    have HB := Lib.hid hB
    have HR0 := Lib.hid hr0
    have HR1 := Lib.hid hr1
    have HR2 := Lib.hid hr2
    have HR3 := Lib.hid hr3
    have HR4 := Lib.hid hr4
    clear hB hr0 hr1 hr2 hr3 hr4
    go_wp2_with fail
    refine qc_all (fun W => Below v.heap.size v W) (by kernel_rfl) (by kernel_rfl) (Below.refl _ _).drew ?_
    refine qc_take (.func (.func 44) #[] #[Sn.pt (w.heap.size + 1 + 1 + 1 + 1)]) (by rfl) (fun W hW => ?_) ?_
    · (try dsimp only at hW)
      go_simp
    try simp only [List.getElem_toArray, List.getElem_cons_succ, List.getElem_cons_zero, Act.put, List.setIfInBounds_toArray, List.set_cons_zero, List.set_cons_succ]
    refine qc_take (.pointer (some ⟨w.heap.size + 1, 0, none⟩)) (by rfl) (fun W hW => ?_) ?_
    · (try dsimp only at hW)
      go_simp
    try simp only [List.getElem_toArray, List.getElem_cons_succ, List.getElem_cons_zero, Act.put, List.setIfInBounds_toArray, List.set_cons_zero, List.set_cons_succ]
    refine qc_take (.int .u64 x1) (by rfl) (fun W hW => ?_) ?_
    · (try dsimp only at hW)
      have y := Sn.bk_below HR1.out hW (Sn.bk_lt HR1.out)
      have y0 := Sn.bk_c y 0
      have y1 := Sn.bk_c y 1
      simp only [List.getElem?_toArray, List.getElem?_cons_zero, List.getElem?_cons_succ] at y0 y1
      go_simp
    try simp only [List.getElem_toArray, List.getElem_cons_succ, List.getElem_cons_zero, Act.put, List.setIfInBounds_toArray, List.set_cons_zero, List.set_cons_succ]
    refine qc_take (.pointer (some ⟨w.heap.size + 1 + 1, 0, none⟩)) (by rfl) (fun W hW => ?_) ?_
    · (try dsimp only at hW)
      go_simp
    try simp only [List.getElem_toArray, List.getElem_cons_succ, List.getElem_cons_zero, Act.put, List.setIfInBounds_toArray, List.set_cons_zero, List.set_cons_succ]
    refine qc_take (.int .u64 y1) (by rfl) (fun W hW => ?_) ?_
    · (try dsimp only at hW)
      have y := Sn.bk_below HR2.out hW (Sn.bk_lt HR2.out)
      have y0 := Sn.bk_c y 0
      have y1 := Sn.bk_c y 1
      simp only [List.getElem?_toArray, List.getElem?_cons_zero, List.getElem?_cons_succ] at y0 y1
      go_simp
    try simp only [List.getElem_toArray, List.getElem_cons_succ, List.getElem_cons_zero, Act.put, List.setIfInBounds_toArray, List.set_cons_zero, List.set_cons_succ]
    refine qc_take (.bool true) (by rfl) (fun W hW => ?_) ?_
    · (try dsimp only at hW)
      go_simp
      have hr := Sn.bk_below HR4.out hW (Sn.bk_lt HR4.out)
      have hh := isCut1_any x1 y1 (w.heap.size + 1 + 1 + 1 + 1) (Wd.msk a) (by omega) (by omega) (by omega) W (Sn.bk_c hr 0)
      rw [show decide (y1 > Wd.msk a - x1) = true by simp; omega] at hh
      exact hh.mono fun e w9 h9 => ⟨h9.1, h9.2 ▸ hW⟩
    try simp only [List.getElem_toArray, List.getElem_cons_succ, List.getElem_cons_zero, Act.put, List.setIfInBounds_toArray, List.set_cons_zero, List.set_cons_succ]
    refine qc_take (.func (.func 44) #[] #[Sn.pt (w.heap.size + 1 + 1 + 1 + 1)]) (by rfl) (fun W hW => ?_) ?_
    · (try dsimp only at hW)
      go_simp
    try simp only [List.getElem_toArray, List.getElem_cons_succ, List.getElem_cons_zero, Act.put, List.setIfInBounds_toArray, List.set_cons_zero, List.set_cons_succ]
    refine qc_take (.pointer (some ⟨w.heap.size + 1, 1, none⟩)) (by rfl) (fun W hW => ?_) ?_
    · (try dsimp only at hW)
      go_simp
    try simp only [List.getElem_toArray, List.getElem_cons_succ, List.getElem_cons_zero, Act.put, List.setIfInBounds_toArray, List.set_cons_zero, List.set_cons_succ]
    refine qc_take (.int .u64 x2) (by rfl) (fun W hW => ?_) ?_
    · (try dsimp only at hW)
      have y := Sn.bk_below HR1.out hW (Sn.bk_lt HR1.out)
      have y0 := Sn.bk_c y 0
      have y1 := Sn.bk_c y 1
      simp only [List.getElem?_toArray, List.getElem?_cons_zero, List.getElem?_cons_succ] at y0 y1
      go_simp
    try simp only [List.getElem_toArray, List.getElem_cons_succ, List.getElem_cons_zero, Act.put, List.setIfInBounds_toArray, List.set_cons_zero, List.set_cons_succ]
    refine qc_take (.pointer (some ⟨w.heap.size + 1 + 1, 1, none⟩)) (by rfl) (fun W hW => ?_) ?_
    · (try dsimp only at hW)
      go_simp
    try simp only [List.getElem_toArray, List.getElem_cons_succ, List.getElem_cons_zero, Act.put, List.setIfInBounds_toArray, List.set_cons_zero, List.set_cons_succ]
    refine qc_take (.int .u64 y2) (by rfl) (fun W hW => ?_) ?_
    · (try dsimp only at hW)
      have y := Sn.bk_below HR2.out hW (Sn.bk_lt HR2.out)
      have y0 := Sn.bk_c y 0
      have y1 := Sn.bk_c y 1
      simp only [List.getElem?_toArray, List.getElem?_cons_zero, List.getElem?_cons_succ] at y0 y1
      go_simp
    try simp only [List.getElem_toArray, List.getElem_cons_succ, List.getElem_cons_zero, Act.put, List.setIfInBounds_toArray, List.set_cons_zero, List.set_cons_succ]
    refine qc_take (.bool true) (by rfl) (fun W hW => ?_) ?_
    · (try dsimp only at hW)
      go_simp
      have hr := Sn.bk_below HR4.out hW (Sn.bk_lt HR4.out)
      have hh := isCut1_any x2 y2 (w.heap.size + 1 + 1 + 1 + 1) (Wd.msk a) (by omega) (by omega) (by omega) W (Sn.bk_c hr 0)
      rw [show decide (y2 > Wd.msk a - x2) = true by simp; omega] at hh
      exact hh.mono fun e w9 h9 => ⟨h9.1, h9.2 ▸ hW⟩
    try simp only [List.getElem_toArray, List.getElem_cons_succ, List.getElem_cons_zero, Act.put, List.setIfInBounds_toArray, List.set_cons_zero, List.set_cons_succ]
    refine qc_take (.bool true) (by rfl) (fun W hW => ?_) ?_
    · (try dsimp only at hW)
      go_simp
    try simp only [List.getElem_toArray, List.getElem_cons_succ, List.getElem_cons_zero, Act.put, List.setIfInBounds_toArray, List.set_cons_zero, List.set_cons_succ]
    refine qc_take (.bool true) (by rfl) (fun W hW => ?_) ?_
    · (try dsimp only at hW)
      go_simp
    try simp only [List.getElem_toArray, List.getElem_cons_succ, List.getElem_cons_zero, Act.put, List.setIfInBounds_toArray, List.set_cons_zero, List.set_cons_succ]
    refine wpQuiet_nil ?_
    intro v2 hb
    have hr0 := Sn.bk_below HR0.out hb (Sn.bk_lt HR0.out)
    have hr3 := Sn.bk_below HR3.out hb (Sn.bk_lt HR3.out)
    have hB := Sn.below_next HB.out hb HB.out.size
    clear HB HR0 HR3 hb
    have HB := Lib.hid hB
    have HR0 := Lib.hid hr0
    have HR3 := Lib.hid hr3
    clear hB hr0 hr3
    clear HR1 HR2 HR4 v
    rename World => v
    go_wp2_with fail
    refine (rising_any true 46 #[Sn.pt w.heap.size] _).mono ?_
    rintro e v4 ⟨rfl, hb⟩
    have hr0 := Sn.bk_below HR0.out hb (Sn.bk_lt HR0.out)
    have hr3 := Sn.bk_below HR3.out hb (Sn.bk_lt HR3.out)
    have hB := Sn.below_next HB.out hb HB.out.size
    clear HB HR0 HR3 hb
    have HB := Lib.hid hB
    have HR0 := Lib.hid hr0
    have HR3 := Lib.hid hr3
    clear hB hr0 hr3
    have H1C := Lib.hid (show (#[.bool true, .func (.func 46) #[] #[Sn.pt w.heap.size], .func (.func 46) #[] #[Sn.pt w.heap.size], .bool false] : Array Value).all (·.oneCell') = true from by simp [Value.oneCell'])
    go_wp2_with (with_reducible refine Sn.store_rl (.tmp 8) (.tmp 38) (w.heap.size + 1 + 1 + 1) Sn.Z4 #[.bool true, .func (.func 46) #[] #[Sn.pt w.heap.size], .func (.func 46) #[] #[Sn.pt w.heap.size], .bool false] HR3.out rfl rfl rfl rfl rfl rfl H1C.out ?_)
    refine Sn.ret_rl (w.heap.size + 1 + 1 + 1) _ (Sn.bk_row HR3.out _) rfl rfl rfl rfl ?_
    refine ⟨_, rfl, fun W hW => ?_, Sn.below_set HB.out (by omega) _⟩
    exact rspan_f 46 46 #[Sn.pt w.heap.size] #[Sn.pt w.heap.size] a (x1, x2) (y1, y2) (Wd.cut a (x1 + y1)) (Wd.cut a (x2 + y2)) W (fun args W => by simp [go_sem]) (fun args W => by simp [go_sem])
      (fun W2 h2 => by rw [Sn.app1]; have hr := Sn.bk_below (Sn.bk_below (Sn.bk_row_other HR0.out (show w.heap.size ≠ w.heap.size + 1 + 1 + 1 by omega) _) hW (Sn.bk_lt (Sn.bk_row_other HR0.out (show w.heap.size ≠ w.heap.size + 1 + 1 + 1 by omega) _))) h2 (Sn.bk_lt (Sn.bk_below (Sn.bk_row_other HR0.out (show w.heap.size ≠ w.heap.size + 1 + 1 + 1 by omega) _) hW (Sn.bk_lt (Sn.bk_row_other HR0.out (show w.heap.size ≠ w.heap.size + 1 + 1 + 1 by omega) _)))); exact addc_any x1 y1 w.heap.size a W2 (Sn.bk_c hr 0))
      (fun W2 h2 => by rw [Sn.app1]; have hr := Sn.bk_below (Sn.bk_below (Sn.bk_row_other HR0.out (show w.heap.size ≠ w.heap.size + 1 + 1 + 1 by omega) _) hW (Sn.bk_lt (Sn.bk_row_other HR0.out (show w.heap.size ≠ w.heap.size + 1 + 1 + 1 by omega) _))) h2 (Sn.bk_lt (Sn.bk_below (Sn.bk_row_other HR0.out (show w.heap.size ≠ w.heap.size + 1 + 1 + 1 by omega) _) hW (Sn.bk_lt (Sn.bk_row_other HR0.out (show w.heap.size ≠ w.heap.size + 1 + 1 + 1 by omega) _)))); exact addc_any x2 y2 w.heap.size a W2 (Sn.bk_c hr 0))
  · by_cases g2 : y2 > Wd.msk a - x2
    · rw [Sn.add_no g1 g2]
      show Calls Try.prog 24 #[.int .i64 8, .int .i64 a, .agg #[.int .u64 x1, .int .u64 x2], .agg #[.int .u64 y1, .int .u64 y2]] w _
      have h8 : (8 == 8) = true := rfl
      go_enter Try.func24, Try.ntmps24
      go_upto_region 2 with (go_at_call 21; refine (mask_any _ _).mono ?_; rintro e w' ⟨rfl, rfl⟩)
      have hB : Below w.heap.size w (((((w.alloc (.cells #[.int .i64 a] 3)).alloc (.cells #[.int .u64 x1, .int .u64 x2] 24)).alloc (.cells #[.int .u64 y1, .int .u64 y2] 24)).alloc (.cells Sn.Z4 43)).alloc (.cells #[.int .u64 (Wd.msk a)] 22)) := ((((((Below.refl _ _).alloc (Nat.le_refl _) _).alloc (by simp) _).alloc (by simp; omega) _).alloc (by simp; omega) _).alloc (by simp; omega) _)
      have hr0 : Sn.Bk (((((w.alloc (.cells #[.int .i64 a] 3)).alloc (.cells #[.int .u64 x1, .int .u64 x2] 24)).alloc (.cells #[.int .u64 y1, .int .u64 y2] 24)).alloc (.cells Sn.Z4 43)).alloc (.cells #[.int .u64 (Wd.msk a)] 22)) (w.heap.size) 3 #[.int .i64 a] := Sn.bk_old (Sn.bk_old (Sn.bk_old (Sn.bk_old (Sn.bk_new _ _ _) _) _) _) _
      have hr1 : Sn.Bk (((((w.alloc (.cells #[.int .i64 a] 3)).alloc (.cells #[.int .u64 x1, .int .u64 x2] 24)).alloc (.cells #[.int .u64 y1, .int .u64 y2] 24)).alloc (.cells Sn.Z4 43)).alloc (.cells #[.int .u64 (Wd.msk a)] 22)) (w.heap.size + 1) 24 #[.int .u64 x1, .int .u64 x2] := Sn.bk_old (Sn.bk_old (Sn.bk_old (Sn.bk_at (by simp)) _) _) _
      have hr2 : Sn.Bk (((((w.alloc (.cells #[.int .i64 a] 3)).alloc (.cells #[.int .u64 x1, .int .u64 x2] 24)).alloc (.cells #[.int .u64 y1, .int .u64 y2] 24)).alloc (.cells Sn.Z4 43)).alloc (.cells #[.int .u64 (Wd.msk a)] 22)) (w.heap.size + 1 + 1) 24 #[.int .u64 y1, .int .u64 y2] := Sn.bk_old (Sn.bk_old (Sn.bk_at (by simp)) _) _
      have hr3 : Sn.Bk (((((w.alloc (.cells #[.int .i64 a] 3)).alloc (.cells #[.int .u64 x1, .int .u64 x2] 24)).alloc (.cells #[.int .u64 y1, .int .u64 y2] 24)).alloc (.cells Sn.Z4 43)).alloc (.cells #[.int .u64 (Wd.msk a)] 22)) (w.heap.size + 1 + 1 + 1) 43 Sn.Z4 := Sn.bk_old (Sn.bk_at (by simp)) _
      have hr4 : Sn.Bk (((((w.alloc (.cells #[.int .i64 a] 3)).alloc (.cells #[.int .u64 x1, .int .u64 x2] 24)).alloc (.cells #[.int .u64 y1, .int .u64 y2] 24)).alloc (.cells Sn.Z4 43)).alloc (.cells #[.int .u64 (Wd.msk a)] 22)) (w.heap.size + 1 + 1 + 1 + 1) 22 #[.int .u64 (Wd.msk a)] := Sn.bk_at (by simp)
      generalize (((((w.alloc (.cells #[.int .i64 a] 3)).alloc (.cells #[.int .u64 x1, .int .u64 x2] 24)).alloc (.cells #[.int .u64 y1, .int .u64 y2] 24)).alloc (.cells Sn.Z4 43)).alloc (.cells #[.int .u64 (Wd.msk a)] 22)) = v at *
      have HB := Lib.hid hB
      have HR0 := Lib.hid hr0
      have HR1 := Lib.hid hr1
      have HR2 := Lib.hid hr2
      have HR3 := Lib.hid hr3
      have HR4 := Lib.hid hr4
      clear hB hr0 hr1 hr2 hr3 hr4
      go_wp2_with fail
      refine qc_all (fun W => Below v.heap.size v W) (by kernel_rfl) (by kernel_rfl) (Below.refl _ _).drew ?_
      refine qc_take (.func (.func 44) #[] #[Sn.pt (w.heap.size + 1 + 1 + 1 + 1)]) (by rfl) (fun W hW => ?_) ?_
      · (try dsimp only at hW)
        go_simp
      try simp only [List.getElem_toArray, List.getElem_cons_succ, List.getElem_cons_zero, Act.put, List.setIfInBounds_toArray, List.set_cons_zero, List.set_cons_succ]
      refine qc_take (.pointer (some ⟨w.heap.size + 1, 0, none⟩)) (by rfl) (fun W hW => ?_) ?_
      · (try dsimp only at hW)
        go_simp
      try simp only [List.getElem_toArray, List.getElem_cons_succ, List.getElem_cons_zero, Act.put, List.setIfInBounds_toArray, List.set_cons_zero, List.set_cons_succ]
      refine qc_take (.int .u64 x1) (by rfl) (fun W hW => ?_) ?_
      · (try dsimp only at hW)
        have y := Sn.bk_below HR1.out hW (Sn.bk_lt HR1.out)
        have y0 := Sn.bk_c y 0
        have y1 := Sn.bk_c y 1
        simp only [List.getElem?_toArray, List.getElem?_cons_zero, List.getElem?_cons_succ] at y0 y1
        go_simp
      try simp only [List.getElem_toArray, List.getElem_cons_succ, List.getElem_cons_zero, Act.put, List.setIfInBounds_toArray, List.set_cons_zero, List.set_cons_succ]
      refine qc_take (.pointer (some ⟨w.heap.size + 1 + 1, 0, none⟩)) (by rfl) (fun W hW => ?_) ?_
      · (try dsimp only at hW)
        go_simp
      try simp only [List.getElem_toArray, List.getElem_cons_succ, List.getElem_cons_zero, Act.put, List.setIfInBounds_toArray, List.set_cons_zero, List.set_cons_succ]
      refine qc_take (.int .u64 y1) (by rfl) (fun W hW => ?_) ?_
      · (try dsimp only at hW)
        have y := Sn.bk_below HR2.out hW (Sn.bk_lt HR2.out)
        have y0 := Sn.bk_c y 0
        have y1 := Sn.bk_c y 1
        simp only [List.getElem?_toArray, List.getElem?_cons_zero, List.getElem?_cons_succ] at y0 y1
        go_simp
      try simp only [List.getElem_toArray, List.getElem_cons_succ, List.getElem_cons_zero, Act.put, List.setIfInBounds_toArray, List.set_cons_zero, List.set_cons_succ]
      refine qc_take (.bool false) (by rfl) (fun W hW => ?_) ?_
      · (try dsimp only at hW)
        go_simp
        have hr := Sn.bk_below HR4.out hW (Sn.bk_lt HR4.out)
        have hh := isCut1_any x1 y1 (w.heap.size + 1 + 1 + 1 + 1) (Wd.msk a) (by omega) (by omega) (by omega) W (Sn.bk_c hr 0)
        rw [show decide (y1 > Wd.msk a - x1) = false by simp; omega] at hh
        exact hh.mono fun e w9 h9 => ⟨h9.1, h9.2 ▸ hW⟩
      try simp only [List.getElem_toArray, List.getElem_cons_succ, List.getElem_cons_zero, Act.put, List.setIfInBounds_toArray, List.set_cons_zero, List.set_cons_succ]
      refine qc_take (.func (.func 44) #[] #[Sn.pt (w.heap.size + 1 + 1 + 1 + 1)]) (by rfl) (fun W hW => ?_) ?_
      · (try dsimp only at hW)
        go_simp
      try simp only [List.getElem_toArray, List.getElem_cons_succ, List.getElem_cons_zero, Act.put, List.setIfInBounds_toArray, List.set_cons_zero, List.set_cons_succ]
      refine qc_take (.pointer (some ⟨w.heap.size + 1, 1, none⟩)) (by rfl) (fun W hW => ?_) ?_
      · (try dsimp only at hW)
        go_simp
      try simp only [List.getElem_toArray, List.getElem_cons_succ, List.getElem_cons_zero, Act.put, List.setIfInBounds_toArray, List.set_cons_zero, List.set_cons_succ]
      refine qc_take (.int .u64 x2) (by rfl) (fun W hW => ?_) ?_
      · (try dsimp only at hW)
        have y := Sn.bk_below HR1.out hW (Sn.bk_lt HR1.out)
        have y0 := Sn.bk_c y 0
        have y1 := Sn.bk_c y 1
        simp only [List.getElem?_toArray, List.getElem?_cons_zero, List.getElem?_cons_succ] at y0 y1
        go_simp
      try simp only [List.getElem_toArray, List.getElem_cons_succ, List.getElem_cons_zero, Act.put, List.setIfInBounds_toArray, List.set_cons_zero, List.set_cons_succ]
      refine qc_take (.pointer (some ⟨w.heap.size + 1 + 1, 1, none⟩)) (by rfl) (fun W hW => ?_) ?_
      · (try dsimp only at hW)
        go_simp
      try simp only [List.getElem_toArray, List.getElem_cons_succ, List.getElem_cons_zero, Act.put, List.setIfInBounds_toArray, List.set_cons_zero, List.set_cons_succ]
      refine qc_take (.int .u64 y2) (by rfl) (fun W hW => ?_) ?_
      · (try dsimp only at hW)
        have y := Sn.bk_below HR2.out hW (Sn.bk_lt HR2.out)
        have y0 := Sn.bk_c y 0
        have y1 := Sn.bk_c y 1
        simp only [List.getElem?_toArray, List.getElem?_cons_zero, List.getElem?_cons_succ] at y0 y1
        go_simp
      try simp only [List.getElem_toArray, List.getElem_cons_succ, List.getElem_cons_zero, Act.put, List.setIfInBounds_toArray, List.set_cons_zero, List.set_cons_succ]
      refine qc_take (.bool true) (by rfl) (fun W hW => ?_) ?_
      · (try dsimp only at hW)
        go_simp
        have hr := Sn.bk_below HR4.out hW (Sn.bk_lt HR4.out)
        have hh := isCut1_any x2 y2 (w.heap.size + 1 + 1 + 1 + 1) (Wd.msk a) (by omega) (by omega) (by omega) W (Sn.bk_c hr 0)
        rw [show decide (y2 > Wd.msk a - x2) = true by simp; omega] at hh
        exact hh.mono fun e w9 h9 => ⟨h9.1, h9.2 ▸ hW⟩
      try simp only [List.getElem_toArray, List.getElem_cons_succ, List.getElem_cons_zero, Act.put, List.setIfInBounds_toArray, List.set_cons_zero, List.set_cons_succ]
      refine qc_take (.bool false) (by rfl) (fun W hW => ?_) ?_
      · (try dsimp only at hW)
        go_simp
      try simp only [List.getElem_toArray, List.getElem_cons_succ, List.getElem_cons_zero, Act.put, List.setIfInBounds_toArray, List.set_cons_zero, List.set_cons_succ]
      refine qc_take (.bool false) (by rfl) (fun W hW => ?_) ?_
      · (try dsimp only at hW)
        go_simp
      try simp only [List.getElem_toArray, List.getElem_cons_succ, List.getElem_cons_zero, Act.put, List.setIfInBounds_toArray, List.set_cons_zero, List.set_cons_succ]
      refine wpQuiet_nil ?_
      intro v2 hb
      have hr0 := Sn.bk_below HR0.out hb (Sn.bk_lt HR0.out)
      have hr3 := Sn.bk_below HR3.out hb (Sn.bk_lt HR3.out)
      have hB := Sn.below_next HB.out hb HB.out.size
      clear HB HR0 HR3 hb
      have HB := Lib.hid hB
      have HR0 := Lib.hid hr0
      have HR3 := Lib.hid hr3
      clear hB hr0 hr3
      clear HR1 HR2 HR4 v
      rename World => v
      go_wp2_with fail
      refine (rising_any false 46 #[Sn.pt w.heap.size] _).mono ?_
      rintro e v4 ⟨rfl, hb⟩
      have hr0 := Sn.bk_below HR0.out hb (Sn.bk_lt HR0.out)
      have hr3 := Sn.bk_below HR3.out hb (Sn.bk_lt HR3.out)
      have hB := Sn.below_next HB.out hb HB.out.size
      clear HB HR0 HR3 hb
      have HB := Lib.hid hB
      have HR0 := Lib.hid hr0
      have HR3 := Lib.hid hr3
      clear hB hr0 hr3
      have H1C := Lib.hid (show (#[.bool false, .func (.func 46) #[] #[Sn.pt w.heap.size], .func (.func 46) #[] #[Sn.pt w.heap.size], .bool false] : Array Value).all (·.oneCell') = true from by simp [Value.oneCell'])
      go_wp2_with (with_reducible refine Sn.store_rl (.tmp 8) (.tmp 38) (w.heap.size + 1 + 1 + 1) Sn.Z4 #[.bool false, .func (.func 46) #[] #[Sn.pt w.heap.size], .func (.func 46) #[] #[Sn.pt w.heap.size], .bool false] HR3.out rfl rfl rfl rfl rfl rfl H1C.out ?_)
      refine Sn.ret_rl (w.heap.size + 1 + 1 + 1) _ (Sn.bk_row HR3.out _) rfl rfl rfl rfl ?_
      refine ⟨_, rfl, fun W hW => ?_, Sn.below_set HB.out (by omega) _⟩
      exact rspan_no false 46 46 #[Sn.pt w.heap.size] #[Sn.pt w.heap.size] a (x1, x2) (y1, y2) W
    · rw [Sn.add_un hx hy g2]
      show Calls Try.prog 24 #[.int .i64 8, .int .i64 a, .agg #[.int .u64 x1, .int .u64 x2], .agg #[.int .u64 y1, .int .u64 y2]] w _
      have h8 : (8 == 8) = true := rfl
      go_enter Try.func24, Try.ntmps24
      go_upto_region 2 with (go_at_call 21; refine (mask_any _ _).mono ?_; rintro e w' ⟨rfl, rfl⟩)
      have hB : Below w.heap.size w (((((w.alloc (.cells #[.int .i64 a] 3)).alloc (.cells #[.int .u64 x1, .int .u64 x2] 24)).alloc (.cells #[.int .u64 y1, .int .u64 y2] 24)).alloc (.cells Sn.Z4 43)).alloc (.cells #[.int .u64 (Wd.msk a)] 22)) := ((((((Below.refl _ _).alloc (Nat.le_refl _) _).alloc (by simp) _).alloc (by simp; omega) _).alloc (by simp; omega) _).alloc (by simp; omega) _)
      have hr0 : Sn.Bk (((((w.alloc (.cells #[.int .i64 a] 3)).alloc (.cells #[.int .u64 x1, .int .u64 x2] 24)).alloc (.cells #[.int .u64 y1, .int .u64 y2] 24)).alloc (.cells Sn.Z4 43)).alloc (.cells #[.int .u64 (Wd.msk a)] 22)) (w.heap.size) 3 #[.int .i64 a] := Sn.bk_old (Sn.bk_old (Sn.bk_old (Sn.bk_old (Sn.bk_new _ _ _) _) _) _) _
      have hr1 : Sn.Bk (((((w.alloc (.cells #[.int .i64 a] 3)).alloc (.cells #[.int .u64 x1, .int .u64 x2] 24)).alloc (.cells #[.int .u64 y1, .int .u64 y2] 24)).alloc (.cells Sn.Z4 43)).alloc (.cells #[.int .u64 (Wd.msk a)] 22)) (w.heap.size + 1) 24 #[.int .u64 x1, .int .u64 x2] := Sn.bk_old (Sn.bk_old (Sn.bk_old (Sn.bk_at (by simp)) _) _) _
      have hr2 : Sn.Bk (((((w.alloc (.cells #[.int .i64 a] 3)).alloc (.cells #[.int .u64 x1, .int .u64 x2] 24)).alloc (.cells #[.int .u64 y1, .int .u64 y2] 24)).alloc (.cells Sn.Z4 43)).alloc (.cells #[.int .u64 (Wd.msk a)] 22)) (w.heap.size + 1 + 1) 24 #[.int .u64 y1, .int .u64 y2] := Sn.bk_old (Sn.bk_old (Sn.bk_at (by simp)) _) _
      have hr3 : Sn.Bk (((((w.alloc (.cells #[.int .i64 a] 3)).alloc (.cells #[.int .u64 x1, .int .u64 x2] 24)).alloc (.cells #[.int .u64 y1, .int .u64 y2] 24)).alloc (.cells Sn.Z4 43)).alloc (.cells #[.int .u64 (Wd.msk a)] 22)) (w.heap.size + 1 + 1 + 1) 43 Sn.Z4 := Sn.bk_old (Sn.bk_at (by simp)) _
      have hr4 : Sn.Bk (((((w.alloc (.cells #[.int .i64 a] 3)).alloc (.cells #[.int .u64 x1, .int .u64 x2] 24)).alloc (.cells #[.int .u64 y1, .int .u64 y2] 24)).alloc (.cells Sn.Z4 43)).alloc (.cells #[.int .u64 (Wd.msk a)] 22)) (w.heap.size + 1 + 1 + 1 + 1) 22 #[.int .u64 (Wd.msk a)] := Sn.bk_at (by simp)
      generalize (((((w.alloc (.cells #[.int .i64 a] 3)).alloc (.cells #[.int .u64 x1, .int .u64 x2] 24)).alloc (.cells #[.int .u64 y1, .int .u64 y2] 24)).alloc (.cells Sn.Z4 43)).alloc (.cells #[.int .u64 (Wd.msk a)] 22)) = v at *
      have HB := Lib.hid hB
      have HR0 := Lib.hid hr0
      have HR1 := Lib.hid hr1
      have HR2 := Lib.hid hr2
      have HR3 := Lib.hid hr3
      have HR4 := Lib.hid hr4
      clear hB hr0 hr1 hr2 hr3 hr4
      go_wp2_with fail
      refine qc_all (fun W => Below v.heap.size v W) (by kernel_rfl) (by kernel_rfl) (Below.refl _ _).drew ?_
      refine qc_take (.func (.func 44) #[] #[Sn.pt (w.heap.size + 1 + 1 + 1 + 1)]) (by rfl) (fun W hW => ?_) ?_
      · (try dsimp only at hW)
        go_simp
      try simp only [List.getElem_toArray, List.getElem_cons_succ, List.getElem_cons_zero, Act.put, List.setIfInBounds_toArray, List.set_cons_zero, List.set_cons_succ]
      refine qc_take (.pointer (some ⟨w.heap.size + 1, 0, none⟩)) (by rfl) (fun W hW => ?_) ?_
      · (try dsimp only at hW)
        go_simp
      try simp only [List.getElem_toArray, List.getElem_cons_succ, List.getElem_cons_zero, Act.put, List.setIfInBounds_toArray, List.set_cons_zero, List.set_cons_succ]
      refine qc_take (.int .u64 x1) (by rfl) (fun W hW => ?_) ?_
      · (try dsimp only at hW)
        have y := Sn.bk_below HR1.out hW (Sn.bk_lt HR1.out)
        have y0 := Sn.bk_c y 0
        have y1 := Sn.bk_c y 1
        simp only [List.getElem?_toArray, List.getElem?_cons_zero, List.getElem?_cons_succ] at y0 y1
        go_simp
      try simp only [List.getElem_toArray, List.getElem_cons_succ, List.getElem_cons_zero, Act.put, List.setIfInBounds_toArray, List.set_cons_zero, List.set_cons_succ]
      refine qc_take (.pointer (some ⟨w.heap.size + 1 + 1, 0, none⟩)) (by rfl) (fun W hW => ?_) ?_
      · (try dsimp only at hW)
        go_simp
      try simp only [List.getElem_toArray, List.getElem_cons_succ, List.getElem_cons_zero, Act.put, List.setIfInBounds_toArray, List.set_cons_zero, List.set_cons_succ]
      refine qc_take (.int .u64 y1) (by rfl) (fun W hW => ?_) ?_
      · (try dsimp only at hW)
        have y := Sn.bk_below HR2.out hW (Sn.bk_lt HR2.out)
        have y0 := Sn.bk_c y 0
        have y1 := Sn.bk_c y 1
        simp only [List.getElem?_toArray, List.getElem?_cons_zero, List.getElem?_cons_succ] at y0 y1
        go_simp
      try simp only [List.getElem_toArray, List.getElem_cons_succ, List.getElem_cons_zero, Act.put, List.setIfInBounds_toArray, List.set_cons_zero, List.set_cons_succ]
      refine qc_take (.bool false) (by rfl) (fun W hW => ?_) ?_
      · (try dsimp only at hW)
        go_simp
        have hr := Sn.bk_below HR4.out hW (Sn.bk_lt HR4.out)
        have hh := isCut1_any x1 y1 (w.heap.size + 1 + 1 + 1 + 1) (Wd.msk a) (by omega) (by omega) (by omega) W (Sn.bk_c hr 0)
        rw [show decide (y1 > Wd.msk a - x1) = false by simp; omega] at hh
        exact hh.mono fun e w9 h9 => ⟨h9.1, h9.2 ▸ hW⟩
      try simp only [List.getElem_toArray, List.getElem_cons_succ, List.getElem_cons_zero, Act.put, List.setIfInBounds_toArray, List.set_cons_zero, List.set_cons_succ]
      refine qc_take (.func (.func 44) #[] #[Sn.pt (w.heap.size + 1 + 1 + 1 + 1)]) (by rfl) (fun W hW => ?_) ?_
      · (try dsimp only at hW)
        go_simp
      try simp only [List.getElem_toArray, List.getElem_cons_succ, List.getElem_cons_zero, Act.put, List.setIfInBounds_toArray, List.set_cons_zero, List.set_cons_succ]
      refine qc_take (.pointer (some ⟨w.heap.size + 1, 1, none⟩)) (by rfl) (fun W hW => ?_) ?_
      · (try dsimp only at hW)
        go_simp
      try simp only [List.getElem_toArray, List.getElem_cons_succ, List.getElem_cons_zero, Act.put, List.setIfInBounds_toArray, List.set_cons_zero, List.set_cons_succ]
      refine qc_take (.int .u64 x2) (by rfl) (fun W hW => ?_) ?_
      · (try dsimp only at hW)
        have y := Sn.bk_below HR1.out hW (Sn.bk_lt HR1.out)
        have y0 := Sn.bk_c y 0
        have y1 := Sn.bk_c y 1
        simp only [List.getElem?_toArray, List.getElem?_cons_zero, List.getElem?_cons_succ] at y0 y1
        go_simp
      try simp only [List.getElem_toArray, List.getElem_cons_succ, List.getElem_cons_zero, Act.put, List.setIfInBounds_toArray, List.set_cons_zero, List.set_cons_succ]
      refine qc_take (.pointer (some ⟨w.heap.size + 1 + 1, 1, none⟩)) (by rfl) (fun W hW => ?_) ?_
      · (try dsimp only at hW)
        go_simp
      try simp only [List.getElem_toArray, List.getElem_cons_succ, List.getElem_cons_zero, Act.put, List.setIfInBounds_toArray, List.set_cons_zero, List.set_cons_succ]
      refine qc_take (.int .u64 y2) (by rfl) (fun W hW => ?_) ?_
      · (try dsimp only at hW)
        have y := Sn.bk_below HR2.out hW (Sn.bk_lt HR2.out)
        have y0 := Sn.bk_c y 0
        have y1 := Sn.bk_c y 1
        simp only [List.getElem?_toArray, List.getElem?_cons_zero, List.getElem?_cons_succ] at y0 y1
        go_simp
      try simp only [List.getElem_toArray, List.getElem_cons_succ, List.getElem_cons_zero, Act.put, List.setIfInBounds_toArray, List.set_cons_zero, List.set_cons_succ]
      refine qc_take (.bool false) (by rfl) (fun W hW => ?_) ?_
      · (try dsimp only at hW)
        go_simp
        have hr := Sn.bk_below HR4.out hW (Sn.bk_lt HR4.out)
        have hh := isCut1_any x2 y2 (w.heap.size + 1 + 1 + 1 + 1) (Wd.msk a) (by omega) (by omega) (by omega) W (Sn.bk_c hr 0)
        rw [show decide (y2 > Wd.msk a - x2) = false by simp; omega] at hh
        exact hh.mono fun e w9 h9 => ⟨h9.1, h9.2 ▸ hW⟩
      try simp only [List.getElem_toArray, List.getElem_cons_succ, List.getElem_cons_zero, Act.put, List.setIfInBounds_toArray, List.set_cons_zero, List.set_cons_succ]
      refine qc_take (.bool true) (by rfl) (fun W hW => ?_) ?_
      · (try dsimp only at hW)
        go_simp
      try simp only [List.getElem_toArray, List.getElem_cons_succ, List.getElem_cons_zero, Act.put, List.setIfInBounds_toArray, List.set_cons_zero, List.set_cons_succ]
      refine qc_take (.bool true) (by rfl) (fun W hW => ?_) ?_
      · (try dsimp only at hW)
        go_simp
      try simp only [List.getElem_toArray, List.getElem_cons_succ, List.getElem_cons_zero, Act.put, List.setIfInBounds_toArray, List.set_cons_zero, List.set_cons_succ]
      refine wpQuiet_nil ?_
      intro v2 hb
      have hr0 := Sn.bk_below HR0.out hb (Sn.bk_lt HR0.out)
      have hr3 := Sn.bk_below HR3.out hb (Sn.bk_lt HR3.out)
      have hB := Sn.below_next HB.out hb HB.out.size
      clear HB HR0 HR3 hb
      have HB := Lib.hid hB
      have HR0 := Lib.hid hr0
      have HR3 := Lib.hid hr3
      clear hB hr0 hr3
      clear HR1 HR2 HR4 v
      rename World => v
      go_wp2_with fail
      refine (rising_any true 46 #[Sn.pt w.heap.size] _).mono ?_
      rintro e v4 ⟨rfl, hb⟩
      have hr0 := Sn.bk_below HR0.out hb (Sn.bk_lt HR0.out)
      have hr3 := Sn.bk_below HR3.out hb (Sn.bk_lt HR3.out)
      have hB := Sn.below_next HB.out hb HB.out.size
      clear HB HR0 HR3 hb
      have HB := Lib.hid hB
      have HR0 := Lib.hid hr0
      have HR3 := Lib.hid hr3
      clear hB hr0 hr3
      have H1C := Lib.hid (show (#[.bool true, .func (.func 46) #[] #[Sn.pt w.heap.size], .func (.func 46) #[] #[Sn.pt w.heap.size], .bool false] : Array Value).all (·.oneCell') = true from by simp [Value.oneCell'])
      go_wp2_with (with_reducible refine Sn.store_rl (.tmp 8) (.tmp 38) (w.heap.size + 1 + 1 + 1) Sn.Z4 #[.bool true, .func (.func 46) #[] #[Sn.pt w.heap.size], .func (.func 46) #[] #[Sn.pt w.heap.size], .bool false] HR3.out rfl rfl rfl rfl rfl rfl H1C.out ?_)
      refine Sn.ret_rl (w.heap.size + 1 + 1 + 1) _ (Sn.bk_row HR3.out _) rfl rfl rfl rfl ?_
      refine ⟨_, rfl, fun W hW => ?_, Sn.below_set HB.out (by omega) _⟩
      exact rspan_f 46 46 #[Sn.pt w.heap.size] #[Sn.pt w.heap.size] a (x1, x2) (y1, y2) (Wd.cut a (x1 + y1)) (Wd.cut a (x2 + y2)) W (fun args W => by simp [go_sem]) (fun args W => by simp [go_sem])
        (fun W2 h2 => by rw [Sn.app1]; have hr := Sn.bk_below (Sn.bk_below (Sn.bk_row_other HR0.out (show w.heap.size ≠ w.heap.size + 1 + 1 + 1 by omega) _) hW (Sn.bk_lt (Sn.bk_row_other HR0.out (show w.heap.size ≠ w.heap.size + 1 + 1 + 1 by omega) _))) h2 (Sn.bk_lt (Sn.bk_below (Sn.bk_row_other HR0.out (show w.heap.size ≠ w.heap.size + 1 + 1 + 1 by omega) _) hW (Sn.bk_lt (Sn.bk_row_other HR0.out (show w.heap.size ≠ w.heap.size + 1 + 1 + 1 by omega) _)))); exact addc_any x1 y1 w.heap.size a W2 (Sn.bk_c hr 0))
        (fun W2 h2 => by rw [Sn.app1]; have hr := Sn.bk_below (Sn.bk_below (Sn.bk_row_other HR0.out (show w.heap.size ≠ w.heap.size + 1 + 1 + 1 by omega) _) hW (Sn.bk_lt (Sn.bk_row_other HR0.out (show w.heap.size ≠ w.heap.size + 1 + 1 + 1 by omega) _))) h2 (Sn.bk_lt (Sn.bk_below (Sn.bk_row_other HR0.out (show w.heap.size ≠ w.heap.size + 1 + 1 + 1 by omega) _) hW (Sn.bk_lt (Sn.bk_row_other HR0.out (show w.heap.size ≠ w.heap.size + 1 + 1 + 1 by omega) _)))); exact addc_any x2 y2 w.heap.size a W2 (Sn.bk_c hr 0))


end Go.Proofs.Ytbjckcjfambpoaa
