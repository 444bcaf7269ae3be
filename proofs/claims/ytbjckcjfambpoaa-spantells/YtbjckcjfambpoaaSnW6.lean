/-
  Layer 11: the span that a rule makes of two.
-/
import Derived.Test.YtbjckcjfambpoaaSnW5
namespace Go.Proofs.Ytbjckcjfambpoaa
set_option linter.unusedSimpArgs false
set_option linter.unusedVariables false
open Go.RowKit Go.Maps
set_option maxRecDepth 100000

set_option maxHeartbeats 1600000 in
theorem rspan_no (cr : Bool) (f g : FuncId) (fc gc : Array Value) (a : Int) (x y : Sn.S) (w : World) :
    Calls Try.prog 25 #[Sn.rl false (.func (.func f) #[] fc) (.func (.func g) #[] gc) cr, .int .i64 a, Sn.v x, Sn.v y] w fun e w' => e = .returned (Sn.v (Sn.whole a)) ∧ Below w.heap.size w w' := by
  obtain ⟨x1, x2⟩ := x
  obtain ⟨y1, y2⟩ := y
  show Calls Try.prog 25 #[.agg #[.bool false, .func (.func f) #[] fc, .func (.func g) #[] gc, .bool cr], .int .i64 a, .agg #[.int .u64 x1, .int .u64 x2], .agg #[.int .u64 y1, .int .u64 y2]] w _
  go_enter Try.func25, Try.ntmps25
  go_upto_region 1 with (fail)
  have hB : Below w.heap.size w ((((w.alloc (.cells #[.bool false, .func (.func f) #[] fc, .func (.func g) #[] gc, .bool cr] 43)).alloc (.cells #[.int .u64 x1, .int .u64 x2] 24)).alloc (.cells #[.int .u64 y1, .int .u64 y2] 24)).alloc (.cells #[.int .u64 0, .int .u64 0] 24)) := (((((Below.refl _ _).alloc (Nat.le_refl _) _).alloc (by simp) _).alloc (by simp; omega) _).alloc (by simp; omega) _)
  have hr0 : Sn.Bk ((((w.alloc (.cells #[.bool false, .func (.func f) #[] fc, .func (.func g) #[] gc, .bool cr] 43)).alloc (.cells #[.int .u64 x1, .int .u64 x2] 24)).alloc (.cells #[.int .u64 y1, .int .u64 y2] 24)).alloc (.cells #[.int .u64 0, .int .u64 0] 24)) (w.heap.size) 43 #[.bool false, .func (.func f) #[] fc, .func (.func g) #[] gc, .bool cr] := Sn.bk_old (Sn.bk_old (Sn.bk_old (Sn.bk_new _ _ _) _) _) _
  have hr1 : Sn.Bk ((((w.alloc (.cells #[.bool false, .func (.func f) #[] fc, .func (.func g) #[] gc, .bool cr] 43)).alloc (.cells #[.int .u64 x1, .int .u64 x2] 24)).alloc (.cells #[.int .u64 y1, .int .u64 y2] 24)).alloc (.cells #[.int .u64 0, .int .u64 0] 24)) (w.heap.size + 1) 24 #[.int .u64 x1, .int .u64 x2] := Sn.bk_old (Sn.bk_old (Sn.bk_at (by simp)) _) _
  have hr2 : Sn.Bk ((((w.alloc (.cells #[.bool false, .func (.func f) #[] fc, .func (.func g) #[] gc, .bool cr] 43)).alloc (.cells #[.int .u64 x1, .int .u64 x2] 24)).alloc (.cells #[.int .u64 y1, .int .u64 y2] 24)).alloc (.cells #[.int .u64 0, .int .u64 0] 24)) (w.heap.size + 1 + 1) 24 #[.int .u64 y1, .int .u64 y2] := Sn.bk_old (Sn.bk_at (by simp)) _
  have hr3 : Sn.Bk ((((w.alloc (.cells #[.bool false, .func (.func f) #[] fc, .func (.func g) #[] gc, .bool cr] 43)).alloc (.cells #[.int .u64 x1, .int .u64 x2] 24)).alloc (.cells #[.int .u64 y1, .int .u64 y2] 24)).alloc (.cells #[.int .u64 0, .int .u64 0] 24)) (w.heap.size + 1 + 1 + 1) 24 #[.int .u64 0, .int .u64 0] := Sn.bk_at (by simp)
  generalize ((((w.alloc (.cells #[.bool false, .func (.func f) #[] fc, .func (.func g) #[] gc, .bool cr] 43)).alloc (.cells #[.int .u64 x1, .int .u64 x2] 24)).alloc (.cells #[.int .u64 y1, .int .u64 y2] 24)).alloc (.cells #[.int .u64 0, .int .u64 0] 24)) = v at *
  have HB := Lib.hid hB
  have HR0 := Lib.hid hr0
  have HR1 := Lib.hid hr1
  have HR2 := Lib.hid hr2
  have HR3 := Lib.hid hr3
  clear hB hr0 hr1 hr2 hr3
  have c0_0 := Sn.bk_c HR0.out 0
  have c0_1 := Sn.bk_c HR0.out 1
  have c0_2 := Sn.bk_c HR0.out 2
  have c0_3 := Sn.bk_c HR0.out 3
  simp only [List.getElem?_toArray, List.getElem?_cons_zero, List.getElem?_cons_succ] at c0_0 c0_1 c0_2 c0_3
  go_wp2_with fail
  refine (whole_any a v).mono ?_
  rintro e v2 ⟨rfl, hb⟩
  have hr3 := Sn.bk_below HR3.out hb (Sn.bk_lt HR3.out)
  have hB := Sn.below_next HB.out hb HB.out.size
  clear HB HR3 hb
  have HB := Lib.hid hB
  have HR3 := Lib.hid hr3
  clear hB hr3
  have H1C := Lib.hid (show (#[.int .u64 0, .int .u64 (Wd.msk a)] : Array Value).all (·.oneCell') = true from by simp [Value.oneCell'])
  go_wp2_with (with_reducible refine Sn.store_sp (.tmp 8) (.tmp 15) (w.heap.size + 1 + 1 + 1) #[.int .u64 0, .int .u64 0] #[.int .u64 0, .int .u64 (Wd.msk a)] HR3.out rfl rfl rfl rfl rfl rfl H1C.out ?_)
  refine Sn.ret_sp (w.heap.size + 1 + 1 + 1) _ (Sn.bk_row HR3.out _) rfl rfl rfl rfl ?_
  exact ⟨rfl, Sn.below_set HB.out (by omega) _⟩

set_option maxHeartbeats 1600000 in
theorem rspan_f (f g : FuncId) (fc gc : Array Value) (a : Int) (x y : Sn.S) (lo hi : Int) (w : World)
    (cf : ∀ (args : Array Value) (W : World), (callFunc f args).run Try.prog W = .ok (.enter f args) W) (cg : ∀ (args : Array Value) (W : World), (callFunc g args).run Try.prog W = .ok (.enter g args) W)
    (hf : ∀ W, Below w.heap.size w W → Calls Try.prog f (#[.int .u64 x.1, .int .u64 y.1] ++ fc) W fun e w' => e = .returned (.int .u64 lo) ∧ W = w')
    (hg : ∀ W, Below w.heap.size w W → Calls Try.prog g (#[.int .u64 x.2, .int .u64 y.2] ++ gc) W fun e w' => e = .returned (.int .u64 hi) ∧ W = w') :
    Calls Try.prog 25 #[Sn.rl true (.func (.func f) #[] fc) (.func (.func g) #[] gc) false, .int .i64 a, Sn.v x, Sn.v y] w fun e w' => e = .returned (Sn.v (lo, hi)) ∧ Below w.heap.size w w' := by
  obtain ⟨x1, x2⟩ := x
  obtain ⟨y1, y2⟩ := y
  show Calls Try.prog 25 #[.agg #[.bool true, .func (.func f) #[] fc, .func (.func g) #[] gc, .bool false], .int .i64 a, .agg #[.int .u64 x1, .int .u64 x2], .agg #[.int .u64 y1, .int .u64 y2]] w _
  have HF := Lib.hid hf
  have HG := Lib.hid hg
  have CF := Lib.hid cf
  have CG := Lib.hid cg
  clear hf hg cf cg
  go_enter Try.func25, Try.ntmps25
  go_upto_region 1 with (fail)
  have hB : Below w.heap.size w ((((w.alloc (.cells #[.bool true, .func (.func f) #[] fc, .func (.func g) #[] gc, .bool false] 43)).alloc (.cells #[.int .u64 x1, .int .u64 x2] 24)).alloc (.cells #[.int .u64 y1, .int .u64 y2] 24)).alloc (.cells #[.int .u64 0, .int .u64 0] 24)) := (((((Below.refl _ _).alloc (Nat.le_refl _) _).alloc (by simp) _).alloc (by simp; omega) _).alloc (by simp; omega) _)
  have hr0 : Sn.Bk ((((w.alloc (.cells #[.bool true, .func (.func f) #[] fc, .func (.func g) #[] gc, .bool false] 43)).alloc (.cells #[.int .u64 x1, .int .u64 x2] 24)).alloc (.cells #[.int .u64 y1, .int .u64 y2] 24)).alloc (.cells #[.int .u64 0, .int .u64 0] 24)) (w.heap.size) 43 #[.bool true, .func (.func f) #[] fc, .func (.func g) #[] gc, .bool false] := Sn.bk_old (Sn.bk_old (Sn.bk_old (Sn.bk_new _ _ _) _) _) _
  have hr1 : Sn.Bk ((((w.alloc (.cells #[.bool true, .func (.func f) #[] fc, .func (.func g) #[] gc, .bool false] 43)).alloc (.cells #[.int .u64 x1, .int .u64 x2] 24)).alloc (.cells #[.int .u64 y1, .int .u64 y2] 24)).alloc (.cells #[.int .u64 0, .int .u64 0] 24)) (w.heap.size + 1) 24 #[.int .u64 x1, .int .u64 x2] := Sn.bk_old (Sn.bk_old (Sn.bk_at (by simp)) _) _
  have hr2 : Sn.Bk ((((w.alloc (.cells #[.bool true, .func (.func f) #[] fc, .func (.func g) #[] gc, .bool false] 43)).alloc (.cells #[.int .u64 x1, .int .u64 x2] 24)).alloc (.cells #[.int .u64 y1, .int .u64 y2] 24)).alloc (.cells #[.int .u64 0, .int .u64 0] 24)) (w.heap.size + 1 + 1) 24 #[.int .u64 y1, .int .u64 y2] := Sn.bk_old (Sn.bk_at (by simp)) _
  have hr3 : Sn.Bk ((((w.alloc (.cells #[.bool true, .func (.func f) #[] fc, .func (.func g) #[] gc, .bool false] 43)).alloc (.cells #[.int .u64 x1, .int .u64 x2] 24)).alloc (.cells #[.int .u64 y1, .int .u64 y2] 24)).alloc (.cells #[.int .u64 0, .int .u64 0] 24)) (w.heap.size + 1 + 1 + 1) 24 #[.int .u64 0, .int .u64 0] := Sn.bk_at (by simp)
  generalize ((((w.alloc (.cells #[.bool true, .func (.func f) #[] fc, .func (.func g) #[] gc, .bool false] 43)).alloc (.cells #[.int .u64 x1, .int .u64 x2] 24)).alloc (.cells #[.int .u64 y1, .int .u64 y2] 24)).alloc (.cells #[.int .u64 0, .int .u64 0] 24)) = v at *
  have HB := Lib.hid hB
  have HR0 := Lib.hid hr0
  have HR1 := Lib.hid hr1
  have HR2 := Lib.hid hr2
  have HR3 := Lib.hid hr3
  clear hB hr0 hr1 hr2 hr3
  have c0_0 := Sn.bk_c HR0.out 0
  have c0_1 := Sn.bk_c HR0.out 1
  have c0_2 := Sn.bk_c HR0.out 2
  have c0_3 := Sn.bk_c HR0.out 3
  have c1_0 := Sn.bk_c HR1.out 0
  have c1_1 := Sn.bk_c HR1.out 1
  have c2_0 := Sn.bk_c HR2.out 0
  have c2_1 := Sn.bk_c HR2.out 1
  simp only [List.getElem?_toArray, List.getElem?_cons_zero, List.getElem?_cons_succ] at c0_0 c0_1 c0_2 c0_3 c1_0 c1_1 c2_0 c2_1
  go_wp2_with fail
  go_quiet (fail)
  have hB := Sn.below_drewN HB.out nq
  have hr0 : Sn.Bk (v.drewN nq) (w.heap.size) 43 #[.bool true, .func (.func f) #[] fc, .func (.func g) #[] gc, .bool false] := HR0.out
  have hr1 : Sn.Bk (v.drewN nq) (w.heap.size + 1) 24 #[.int .u64 x1, .int .u64 x2] := HR1.out
  have hr2 : Sn.Bk (v.drewN nq) (w.heap.size + 1 + 1) 24 #[.int .u64 y1, .int .u64 y2] := HR2.out
  have hr3 : Sn.Bk (v.drewN nq) (w.heap.size + 1 + 1 + 1) 24 #[.int .u64 0, .int .u64 0] := HR3.out
  clear c0_0 c0_1 c0_2 c0_3 c1_0 c1_1 c2_0 c2_1
  clear HB HR0 HR1 HR2 HR3
  generalize v.drewN nq = u at *
  clear v
  have HB := Lib.hid hB
  have HR0 := Lib.hid hr0
  have HR1 := Lib.hid hr1
  have HR2 := Lib.hid hr2
  have HR3 := Lib.hid hr3
  clear hB hr0 hr1 hr2 hr3
  have c0_0 := Sn.bk_c HR0.out 0
  have c0_1 := Sn.bk_c HR0.out 1
  have c0_2 := Sn.bk_c HR0.out 2
  have c0_3 := Sn.bk_c HR0.out 3
  have c1_0 := Sn.bk_c HR1.out 0
  have c1_1 := Sn.bk_c HR1.out 1
  have c2_0 := Sn.bk_c HR2.out 0
  have c2_1 := Sn.bk_c HR2.out 1
  simp only [List.getElem?_toArray, List.getElem?_cons_zero, List.getElem?_cons_succ] at c0_0 c0_1 c0_2 c0_3 c1_0 c1_1 c2_0 c2_1
  go_upto_region 6 with (fail)
  clear c0_0 c0_1 c0_2 c0_3 c1_0 c1_1 c2_0 c2_1
  refine qc_tail (fun W => Below u.heap.size u W) 13 (by kernel_rfl) (by kernel_rfl) (Below.refl _ _).drew ?_
  simp only [List.take_succ_cons, List.take_zero, List.drop_succ_cons, List.drop_zero]
  refine qc_take (.pointer (some ⟨w.heap.size, 1, none⟩)) (by rfl) (fun W hW => ?_) ?_
  · (try dsimp only at hW)
    go_simp
  try simp only [List.getElem_toArray, List.getElem_cons_succ, List.getElem_cons_zero, Act.put, List.setIfInBounds_toArray, List.set_cons_zero, List.set_cons_succ]
  refine qc_take (.func (.func f) #[] fc) (by rfl) (fun W hW => ?_) ?_
  · (try dsimp only at hW)
    have y := Sn.bk_below HR0.out hW (Sn.bk_lt HR0.out)
    have y0 := Sn.bk_c y 0
    have y1 := Sn.bk_c y 1
    have y2 := Sn.bk_c y 2
    have y3 := Sn.bk_c y 3
    simp only [List.getElem?_toArray, List.getElem?_cons_zero, List.getElem?_cons_succ] at y0 y1 y2 y3
    go_simp
  try simp only [List.getElem_toArray, List.getElem_cons_succ, List.getElem_cons_zero, Act.put, List.setIfInBounds_toArray, List.set_cons_zero, List.set_cons_succ]
  refine qc_take (.pointer (some ⟨w.heap.size + 1, 0, none⟩)) (by rfl) (fun W hW => ?_) ?_
  · (try dsimp only at hW)
    go_simp
  try simp only [List.getElem_toArray, List.getElem_cons_succ, List.getElem_cons_zero, Act.put, List.setIfInBounds_toArray, List.set_cons_zero, List.set_cons_succ]
  refine qc_take (.int .u64 x1) (by rfl) (fun W hW => ?_) ?_
  · (try dsimp only at hW)
    have y := Sn.bk_below HR1.out hW (Sn.bk_lt HR1.out)
    have y0 := Sn.bk_c y 0
    have y1 := Sn.bk_c y 1
    simp only [List.getElem?_toArray, List.getElem?_cons_zero, List.getElem?_cons_succ] at y0 y1
    go_simp
  try simp only [List.getElem_toArray, List.getElem_cons_succ, List.getElem_cons_zero, Act.put, List.setIfInBounds_toArray, List.set_cons_zero, List.set_cons_succ]
  refine qc_take (.int .u64 y1) (by rfl) (fun W hW => ?_) ?_
  · (try dsimp only at hW)
    go_simp
  try simp only [List.getElem_toArray, List.getElem_cons_succ, List.getElem_cons_zero, Act.put, List.setIfInBounds_toArray, List.set_cons_zero, List.set_cons_succ]
  refine qc_take (.int .u64 lo) (by rfl) (fun W hW => ?_) ?_
  · (try dsimp only at hW)
    go_simp
    rw [CF.out]
    exact ⟨rfl, (HF.out W (Sn.below_next HB.out hW HB.out.size)).mono fun e w9 h9 => ⟨h9.1, h9.2 ▸ hW⟩⟩
  try simp only [List.getElem_toArray, List.getElem_cons_succ, List.getElem_cons_zero, Act.put, List.setIfInBounds_toArray, List.set_cons_zero, List.set_cons_succ]
  refine qc_take (.pointer (some ⟨w.heap.size, 2, none⟩)) (by rfl) (fun W hW => ?_) ?_
  · (try dsimp only at hW)
    go_simp
  try simp only [List.getElem_toArray, List.getElem_cons_succ, List.getElem_cons_zero, Act.put, List.setIfInBounds_toArray, List.set_cons_zero, List.set_cons_succ]
  refine qc_take (.func (.func g) #[] gc) (by rfl) (fun W hW => ?_) ?_
  · (try dsimp only at hW)
    have y := Sn.bk_below HR0.out hW (Sn.bk_lt HR0.out)
    have y0 := Sn.bk_c y 0
    have y1 := Sn.bk_c y 1
    have y2 := Sn.bk_c y 2
    have y3 := Sn.bk_c y 3
    simp only [List.getElem?_toArray, List.getElem?_cons_zero, List.getElem?_cons_succ] at y0 y1 y2 y3
    go_simp
  try simp only [List.getElem_toArray, List.getElem_cons_succ, List.getElem_cons_zero, Act.put, List.setIfInBounds_toArray, List.set_cons_zero, List.set_cons_succ]
  refine qc_take (.pointer (some ⟨w.heap.size + 1, 1, none⟩)) (by rfl) (fun W hW => ?_) ?_
  · (try dsimp only at hW)
    go_simp
  try simp only [List.getElem_toArray, List.getElem_cons_succ, List.getElem_cons_zero, Act.put, List.setIfInBounds_toArray, List.set_cons_zero, List.set_cons_succ]
  refine qc_take (.int .u64 x2) (by rfl) (fun W hW => ?_) ?_
  · (try dsimp only at hW)
    have y := Sn.bk_below HR1.out hW (Sn.bk_lt HR1.out)
    have y0 := Sn.bk_c y 0
    have y1 := Sn.bk_c y 1
    simp only [List.getElem?_toArray, List.getElem?_cons_zero, List.getElem?_cons_succ] at y0 y1
    go_simp
  try simp only [List.getElem_toArray, List.getElem_cons_succ, List.getElem_cons_zero, Act.put, List.setIfInBounds_toArray, List.set_cons_zero, List.set_cons_succ]
  refine qc_take (.int .u64 y2) (by rfl) (fun W hW => ?_) ?_
  · (try dsimp only at hW)
    go_simp
  try simp only [List.getElem_toArray, List.getElem_cons_succ, List.getElem_cons_zero, Act.put, List.setIfInBounds_toArray, List.set_cons_zero, List.set_cons_succ]
  refine qc_take (.int .u64 hi) (by rfl) (fun W hW => ?_) ?_
  · (try dsimp only at hW)
    go_simp
    rw [CG.out]
    exact ⟨rfl, (HG.out W (Sn.below_next HB.out hW HB.out.size)).mono fun e w9 h9 => ⟨h9.1, h9.2 ▸ hW⟩⟩
  try simp only [List.getElem_toArray, List.getElem_cons_succ, List.getElem_cons_zero, Act.put, List.setIfInBounds_toArray, List.set_cons_zero, List.set_cons_succ]
  refine qc_take (.agg #[.int .u64 lo, .int .u64 hi]) (by rfl) (fun W hW => ?_) ?_
  · (try dsimp only at hW)
    go_simp
  try simp only [List.getElem_toArray, List.getElem_cons_succ, List.getElem_cons_zero, Act.put, List.setIfInBounds_toArray, List.set_cons_zero, List.set_cons_succ]
  refine wpQuiet_nil ?_
  intro v2 hb
  have hr3 := Sn.bk_below HR3.out hb (Sn.bk_lt HR3.out)
  have hB := Sn.below_next HB.out hb HB.out.size
  clear HB HR3 hb
  have HB := Lib.hid hB
  have HR3 := Lib.hid hr3
  clear hB hr3
  have H1C := Lib.hid (show (#[.int .u64 lo, .int .u64 hi] : Array Value).all (·.oneCell') = true from by simp [Value.oneCell'])
  refine Sn.store_sp (.tmp 8) (.tmp 36) (w.heap.size + 1 + 1 + 1) #[.int .u64 0, .int .u64 0] #[.int .u64 lo, .int .u64 hi] HR3.out rfl rfl rfl rfl rfl rfl H1C.out ?_
  go_wp2_with fail
  refine Sn.ret_sp (w.heap.size + 1 + 1 + 1) _ (Sn.bk_row HR3.out _) rfl rfl rfl rfl ?_
  exact ⟨rfl, Sn.below_set HB.out (by omega) _⟩

set_option maxHeartbeats 1600000 in
theorem rspan_t (f g : FuncId) (fc gc : Array Value) (a : Int) (x y : Sn.S) (lo hi : Int) (w : World)
    (cf : ∀ (args : Array Value) (W : World), (callFunc f args).run Try.prog W = .ok (.enter f args) W) (cg : ∀ (args : Array Value) (W : World), (callFunc g args).run Try.prog W = .ok (.enter g args) W)
    (hf : ∀ W, Below w.heap.size w W → Calls Try.prog f (#[.int .u64 x.1, .int .u64 y.2] ++ fc) W fun e w' => e = .returned (.int .u64 lo) ∧ W = w')
    (hg : ∀ W, Below w.heap.size w W → Calls Try.prog g (#[.int .u64 x.2, .int .u64 y.1] ++ gc) W fun e w' => e = .returned (.int .u64 hi) ∧ W = w') :
    Calls Try.prog 25 #[Sn.rl true (.func (.func f) #[] fc) (.func (.func g) #[] gc) true, .int .i64 a, Sn.v x, Sn.v y] w fun e w' => e = .returned (Sn.v (lo, hi)) ∧ Below w.heap.size w w' := by
  obtain ⟨x1, x2⟩ := x
  obtain ⟨y1, y2⟩ := y
  show Calls Try.prog 25 #[.agg #[.bool true, .func (.func f) #[] fc, .func (.func g) #[] gc, .bool true], .int .i64 a, .agg #[.int .u64 x1, .int .u64 x2], .agg #[.int .u64 y1, .int .u64 y2]] w _
  have HF := Lib.hid hf
  have HG := Lib.hid hg
  have CF := Lib.hid cf
  have CG := Lib.hid cg
  clear hf hg cf cg
  go_enter Try.func25, Try.ntmps25
  go_upto_region 1 with (fail)
  have hB : Below w.heap.size w ((((w.alloc (.cells #[.bool true, .func (.func f) #[] fc, .func (.func g) #[] gc, .bool true] 43)).alloc (.cells #[.int .u64 x1, .int .u64 x2] 24)).alloc (.cells #[.int .u64 y1, .int .u64 y2] 24)).alloc (.cells #[.int .u64 0, .int .u64 0] 24)) := (((((Below.refl _ _).alloc (Nat.le_refl _) _).alloc (by simp) _).alloc (by simp; omega) _).alloc (by simp; omega) _)
  have hr0 : Sn.Bk ((((w.alloc (.cells #[.bool true, .func (.func f) #[] fc, .func (.func g) #[] gc, .bool true] 43)).alloc (.cells #[.int .u64 x1, .int .u64 x2] 24)).alloc (.cells #[.int .u64 y1, .int .u64 y2] 24)).alloc (.cells #[.int .u64 0, .int .u64 0] 24)) (w.heap.size) 43 #[.bool true, .func (.func f) #[] fc, .func (.func g) #[] gc, .bool true] := Sn.bk_old (Sn.bk_old (Sn.bk_old (Sn.bk_new _ _ _) _) _) _
  have hr1 : Sn.Bk ((((w.alloc (.cells #[.bool true, .func (.func f) #[] fc, .func (.func g) #[] gc, .bool true] 43)).alloc (.cells #[.int .u64 x1, .int .u64 x2] 24)).alloc (.cells #[.int .u64 y1, .int .u64 y2] 24)).alloc (.cells #[.int .u64 0, .int .u64 0] 24)) (w.heap.size + 1) 24 #[.int .u64 x1, .int .u64 x2] := Sn.bk_old (Sn.bk_old (Sn.bk_at (by simp)) _) _
  have hr2 : Sn.Bk ((((w.alloc (.cells #[.bool true, .func (.func f) #[] fc, .func (.func g) #[] gc, .bool true] 43)).alloc (.cells #[.int .u64 x1, .int .u64 x2] 24)).alloc (.cells #[.int .u64 y1, .int .u64 y2] 24)).alloc (.cells #[.int .u64 0, .int .u64 0] 24)) (w.heap.size + 1 + 1) 24 #[.int .u64 y1, .int .u64 y2] := Sn.bk_old (Sn.bk_at (by simp)) _
  have hr3 : Sn.Bk ((((w.alloc (.cells #[.bool true, .func (.func f) #[] fc, .func (.func g) #[] gc, .bool true] 43)).alloc (.cells #[.int .u64 x1, .int .u64 x2] 24)).alloc (.cells #[.int .u64 y1, .int .u64 y2] 24)).alloc (.cells #[.int .u64 0, .int .u64 0] 24)) (w.heap.size + 1 + 1 + 1) 24 #[.int .u64 0, .int .u64 0] := Sn.bk_at (by simp)
  generalize ((((w.alloc (.cells #[.bool true, .func (.func f) #[] fc, .func (.func g) #[] gc, .bool true] 43)).alloc (.cells #[.int .u64 x1, .int .u64 x2] 24)).alloc (.cells #[.int .u64 y1, .int .u64 y2] 24)).alloc (.cells #[.int .u64 0, .int .u64 0] 24)) = v at *
  have HB := Lib.hid hB
  have HR0 := Lib.hid hr0
  have HR1 := Lib.hid hr1
  have HR2 := Lib.hid hr2
  have HR3 := Lib.hid hr3
  clear hB hr0 hr1 hr2 hr3
  have c0_0 := Sn.bk_c HR0.out 0
  have c0_1 := Sn.bk_c HR0.out 1
  have c0_2 := Sn.bk_c HR0.out 2
  have c0_3 := Sn.bk_c HR0.out 3
  have c1_0 := Sn.bk_c HR1.out 0
  have c1_1 := Sn.bk_c HR1.out 1
  have c2_0 := Sn.bk_c HR2.out 0
  have c2_1 := Sn.bk_c HR2.out 1
  simp only [List.getElem?_toArray, List.getElem?_cons_zero, List.getElem?_cons_succ] at c0_0 c0_1 c0_2 c0_3 c1_0 c1_1 c2_0 c2_1
  go_wp2_with fail
  go_quiet (fail)
  have hB := Sn.below_drewN HB.out nq
  have hr0 : Sn.Bk (v.drewN nq) (w.heap.size) 43 #[.bool true, .func (.func f) #[] fc, .func (.func g) #[] gc, .bool true] := HR0.out
  have hr1 : Sn.Bk (v.drewN nq) (w.heap.size + 1) 24 #[.int .u64 x1, .int .u64 x2] := HR1.out
  have hr2 : Sn.Bk (v.drewN nq) (w.heap.size + 1 + 1) 24 #[.int .u64 y1, .int .u64 y2] := HR2.out
  have hr3 : Sn.Bk (v.drewN nq) (w.heap.size + 1 + 1 + 1) 24 #[.int .u64 0, .int .u64 0] := HR3.out
  clear c0_0 c0_1 c0_2 c0_3 c1_0 c1_1 c2_0 c2_1
  clear HB HR0 HR1 HR2 HR3
  generalize v.drewN nq = u at *
  clear v
  have HB := Lib.hid hB
  have HR0 := Lib.hid hr0
  have HR1 := Lib.hid hr1
  have HR2 := Lib.hid hr2
  have HR3 := Lib.hid hr3
  clear hB hr0 hr1 hr2 hr3
  have c0_0 := Sn.bk_c HR0.out 0
  have c0_1 := Sn.bk_c HR0.out 1
  have c0_2 := Sn.bk_c HR0.out 2
  have c0_3 := Sn.bk_c HR0.out 3
  have c1_0 := Sn.bk_c HR1.out 0
  have c1_1 := Sn.bk_c HR1.out 1
  have c2_0 := Sn.bk_c HR2.out 0
  have c2_1 := Sn.bk_c HR2.out 1
  simp only [List.getElem?_toArray, List.getElem?_cons_zero, List.getElem?_cons_succ] at c0_0 c0_1 c0_2 c0_3 c1_0 c1_1 c2_0 c2_1
  go_upto_region 6 with (fail)
  clear c0_0 c0_1 c0_2 c0_3 c1_0 c1_1 c2_0 c2_1
  refine qc_tail (fun W => Below u.heap.size u W) 13 (by kernel_rfl) (by kernel_rfl) (Below.refl _ _).drew ?_
  simp only [List.take_succ_cons, List.take_zero, List.drop_succ_cons, List.drop_zero]
  refine qc_take (.pointer (some ⟨w.heap.size, 1, none⟩)) (by rfl) (fun W hW => ?_) ?_
  · (try dsimp only at hW)
    go_simp
  try simp only [List.getElem_toArray, List.getElem_cons_succ, List.getElem_cons_zero, Act.put, List.setIfInBounds_toArray, List.set_cons_zero, List.set_cons_succ]
  refine qc_take (.func (.func f) #[] fc) (by rfl) (fun W hW => ?_) ?_
  · (try dsimp only at hW)
    have y := Sn.bk_below HR0.out hW (Sn.bk_lt HR0.out)
    have y0 := Sn.bk_c y 0
    have y1 := Sn.bk_c y 1
    have y2 := Sn.bk_c y 2
    have y3 := Sn.bk_c y 3
    simp only [List.getElem?_toArray, List.getElem?_cons_zero, List.getElem?_cons_succ] at y0 y1 y2 y3
    go_simp
  try simp only [List.getElem_toArray, List.getElem_cons_succ, List.getElem_cons_zero, Act.put, List.setIfInBounds_toArray, List.set_cons_zero, List.set_cons_succ]
  refine qc_take (.pointer (some ⟨w.heap.size + 1, 0, none⟩)) (by rfl) (fun W hW => ?_) ?_
  · (try dsimp only at hW)
    go_simp
  try simp only [List.getElem_toArray, List.getElem_cons_succ, List.getElem_cons_zero, Act.put, List.setIfInBounds_toArray, List.set_cons_zero, List.set_cons_succ]
  refine qc_take (.int .u64 x1) (by rfl) (fun W hW => ?_) ?_
  · (try dsimp only at hW)
    have y := Sn.bk_below HR1.out hW (Sn.bk_lt HR1.out)
    have y0 := Sn.bk_c y 0
    have y1 := Sn.bk_c y 1
    simp only [List.getElem?_toArray, List.getElem?_cons_zero, List.getElem?_cons_succ] at y0 y1
    go_simp
  try simp only [List.getElem_toArray, List.getElem_cons_succ, List.getElem_cons_zero, Act.put, List.setIfInBounds_toArray, List.set_cons_zero, List.set_cons_succ]
  refine qc_take (.int .u64 y2) (by rfl) (fun W hW => ?_) ?_
  · (try dsimp only at hW)
    go_simp
  try simp only [List.getElem_toArray, List.getElem_cons_succ, List.getElem_cons_zero, Act.put, List.setIfInBounds_toArray, List.set_cons_zero, List.set_cons_succ]
  refine qc_take (.int .u64 lo) (by rfl) (fun W hW => ?_) ?_
  · (try dsimp only at hW)
    go_simp
    rw [CF.out]
    exact ⟨rfl, (HF.out W (Sn.below_next HB.out hW HB.out.size)).mono fun e w9 h9 => ⟨h9.1, h9.2 ▸ hW⟩⟩
  try simp only [List.getElem_toArray, List.getElem_cons_succ, List.getElem_cons_zero, Act.put, List.setIfInBounds_toArray, List.set_cons_zero, List.set_cons_succ]
  refine qc_take (.pointer (some ⟨w.heap.size, 2, none⟩)) (by rfl) (fun W hW => ?_) ?_
  · (try dsimp only at hW)
    go_simp
  try simp only [List.getElem_toArray, List.getElem_cons_succ, List.getElem_cons_zero, Act.put, List.setIfInBounds_toArray, List.set_cons_zero, List.set_cons_succ]
  refine qc_take (.func (.func g) #[] gc) (by rfl) (fun W hW => ?_) ?_
  · (try dsimp only at hW)
    have y := Sn.bk_below HR0.out hW (Sn.bk_lt HR0.out)
    have y0 := Sn.bk_c y 0
    have y1 := Sn.bk_c y 1
    have y2 := Sn.bk_c y 2
    have y3 := Sn.bk_c y 3
    simp only [List.getElem?_toArray, List.getElem?_cons_zero, List.getElem?_cons_succ] at y0 y1 y2 y3
    go_simp
  try simp only [List.getElem_toArray, List.getElem_cons_succ, List.getElem_cons_zero, Act.put, List.setIfInBounds_toArray, List.set_cons_zero, List.set_cons_succ]
  refine qc_take (.pointer (some ⟨w.heap.size + 1, 1, none⟩)) (by rfl) (fun W hW => ?_) ?_
  · (try dsimp only at hW)
    go_simp
  try simp only [List.getElem_toArray, List.getElem_cons_succ, List.getElem_cons_zero, Act.put, List.setIfInBounds_toArray, List.set_cons_zero, List.set_cons_succ]
  refine qc_take (.int .u64 x2) (by rfl) (fun W hW => ?_) ?_
  · (try dsimp only at hW)
    have y := Sn.bk_below HR1.out hW (Sn.bk_lt HR1.out)
    have y0 := Sn.bk_c y 0
    have y1 := Sn.bk_c y 1
    simp only [List.getElem?_toArray, List.getElem?_cons_zero, List.getElem?_cons_succ] at y0 y1
    go_simp
  try simp only [List.getElem_toArray, List.getElem_cons_succ, List.getElem_cons_zero, Act.put, List.setIfInBounds_toArray, List.set_cons_zero, List.set_cons_succ]
  refine qc_take (.int .u64 y1) (by rfl) (fun W hW => ?_) ?_
  · (try dsimp only at hW)
    go_simp
  try simp only [List.getElem_toArray, List.getElem_cons_succ, List.getElem_cons_zero, Act.put, List.setIfInBounds_toArray, List.set_cons_zero, List.set_cons_succ]
  refine qc_take (.int .u64 hi) (by rfl) (fun W hW => ?_) ?_
  · (try dsimp only at hW)
    go_simp
    rw [CG.out]
    exact ⟨rfl, (HG.out W (Sn.below_next HB.out hW HB.out.size)).mono fun e w9 h9 => ⟨h9.1, h9.2 ▸ hW⟩⟩
  try simp only [List.getElem_toArray, List.getElem_cons_succ, List.getElem_cons_zero, Act.put, List.setIfInBounds_toArray, List.set_cons_zero, List.set_cons_succ]
  refine qc_take (.agg #[.int .u64 lo, .int .u64 hi]) (by rfl) (fun W hW => ?_) ?_
  · (try dsimp only at hW)
    go_simp
  try simp only [List.getElem_toArray, List.getElem_cons_succ, List.getElem_cons_zero, Act.put, List.setIfInBounds_toArray, List.set_cons_zero, List.set_cons_succ]
  refine wpQuiet_nil ?_
  intro v2 hb
  have hr3 := Sn.bk_below HR3.out hb (Sn.bk_lt HR3.out)
  have hB := Sn.below_next HB.out hb HB.out.size
  clear HB HR3 hb
  have HB := Lib.hid hB
  have HR3 := Lib.hid hr3
  clear hB hr3
  have H1C := Lib.hid (show (#[.int .u64 lo, .int .u64 hi] : Array Value).all (·.oneCell') = true from by simp [Value.oneCell'])
  refine Sn.store_sp (.tmp 8) (.tmp 36) (w.heap.size + 1 + 1 + 1) #[.int .u64 0, .int .u64 0] #[.int .u64 lo, .int .u64 hi] HR3.out rfl rfl rfl rfl rfl rfl H1C.out ?_
  go_wp2_with fail
  refine Sn.ret_sp (w.heap.size + 1 + 1 + 1) _ (Sn.bk_row HR3.out _) rfl rfl rfl rfl ?_
  exact ⟨rfl, Sn.below_set HB.out (by omega) _⟩


end Go.Proofs.Ytbjckcjfambpoaa
