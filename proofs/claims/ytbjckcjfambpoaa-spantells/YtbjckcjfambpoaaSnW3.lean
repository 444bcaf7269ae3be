/-
  Layer 11: Meet; less, below, compare.
-/
import Derived.Test.YtbjckcjfambpoaaSnW2
namespace Go.Proofs.Ytbjckcjfambpoaa
set_option linter.unusedSimpArgs false
set_option linter.unusedVariables false
open Go.RowKit Go.Maps
set_option maxRecDepth 100000

theorem Sn.ret_sp2 {fn : Func} {p q : Tmp} {R : Ending → World → Prop} {a : Act} {w : World} (g : Nat) (cs : Array Value) (v : Value) (hr : Sn.Bk w g 24 cs) (hc : cs.size = 2) (hf : fn.results = #[.cell p 24, .tmp q]) (hd : a.defers = []) (hp : a.tmps.getD p undef = .pointer (some ⟨g, 0, none⟩)) (hq : a.tmps.getD q undef = v) (hR : R (.returned (.tuple #[.agg cs, v])) w) :
    bodyPost Try.prog fn R .ret a w := by
  have hp' : a.tmps[p]?.getD undef = .pointer (some ⟨g, 0, none⟩) := by simpa using hp
  have hq' : a.tmps[q]?.getD undef = v := by simpa using hq
  refine bodyPost_ret (v := .tuple #[.agg cs, v]) ?_ hd hR
  simp [results, hf, hp', hq', asAddr, run_loadVar_row w g 24 24 cs (0, 0) _ hr Try.underlying24 rfl (Sn.size_sp cs hc)]

set_option maxHeartbeats 6400000 in
theorem meet_any (a : Int) (x y : Sn.S) (w : World) :
    Calls Try.prog 15 #[.int .i64 a, Sn.v x, Sn.v y] w fun e w' => e = .returned (.tuple #[Sn.v (Sn.meet a x y).1, .bool (Sn.meet a x y).2]) ∧ Below w.heap.size w w' := by
  unfold Sn.meet
  obtain ⟨x1, x2⟩ := x
  obtain ⟨y1, y2⟩ := y
  have HX := Lib.hid (fun W => right_any a (x1, x2) W)
  have HY := Lib.hid (fun W => right_any a (y1, y2) W)
  generalize Sn.rt a (x1, x2) = rx at *
  generalize Sn.rt a (y1, y2) = ry at *
  obtain ⟨p1, p2⟩ := rx
  obtain ⟨q1, q2⟩ := ry
  show Calls Try.prog 15 #[.int .i64 a, .agg #[.int .u64 x1, .int .u64 x2], .agg #[.int .u64 y1, .int .u64 y2]] w _
  by_cases h1 : p1 < q1
  · rw [show max p1 q1 = q1 by omega]
    by_cases h2 : q2 < p2
    · rw [show min p2 q2 = q2 by omega]
      by_cases hc : q2 < q1
      · rw [if_pos hc]
        have hd : decide (q1 > q2) = true := by simpa using hc
        clear hc
        go_enter Try.func15, Try.ntmps15
        go_upto_region 1 with (fail)
        have hB : Below w.heap.size w (((w.alloc (.cells #[.int .u64 x1, .int .u64 x2] 24)).alloc (.cells #[.int .u64 y1, .int .u64 y2] 24)).alloc (.cells #[.int .u64 0, .int .u64 0] 24)) := ((((Below.refl _ _).alloc (Nat.le_refl _) _).alloc (by simp) _).alloc (by simp; omega) _)
        have hr0 : Sn.Bk (((w.alloc (.cells #[.int .u64 x1, .int .u64 x2] 24)).alloc (.cells #[.int .u64 y1, .int .u64 y2] 24)).alloc (.cells #[.int .u64 0, .int .u64 0] 24)) (w.heap.size) 24 #[.int .u64 x1, .int .u64 x2] := Sn.bk_old (Sn.bk_old (Sn.bk_new _ _ _) _) _
        have hr1 : Sn.Bk (((w.alloc (.cells #[.int .u64 x1, .int .u64 x2] 24)).alloc (.cells #[.int .u64 y1, .int .u64 y2] 24)).alloc (.cells #[.int .u64 0, .int .u64 0] 24)) (w.heap.size + 1) 24 #[.int .u64 y1, .int .u64 y2] := Sn.bk_old (Sn.bk_at (by simp)) _
        have hr2 : Sn.Bk (((w.alloc (.cells #[.int .u64 x1, .int .u64 x2] 24)).alloc (.cells #[.int .u64 y1, .int .u64 y2] 24)).alloc (.cells #[.int .u64 0, .int .u64 0] 24)) (w.heap.size + 1 + 1) 24 #[.int .u64 0, .int .u64 0] := Sn.bk_at (by simp)
        generalize (((w.alloc (.cells #[.int .u64 x1, .int .u64 x2] 24)).alloc (.cells #[.int .u64 y1, .int .u64 y2] 24)).alloc (.cells #[.int .u64 0, .int .u64 0] 24)) = v at *
        have HB := Lib.hid hB
        have HR0 := Lib.hid hr0
        have HR1 := Lib.hid hr1
        have HR2 := Lib.hid hr2
        clear hB hr0 hr1 hr2
        refine qc_tail (fun W => Below v.heap.size v W) 6 (by kernel_rfl) (by kernel_rfl) (Below.refl _ _).drew ?_
        simp only [List.take_succ_cons, List.take_zero, List.drop_succ_cons, List.drop_zero]
        refine qc_take (.int .i64 a) (by rfl) (fun W hW => ?_) ?_
        · (try dsimp only at hW)
          go_simp
        try simp only [List.getElem_toArray, List.getElem_cons_succ, List.getElem_cons_zero, Act.put, List.setIfInBounds_toArray, List.set_cons_zero, List.set_cons_succ]
        refine qc_take (.agg #[.int .u64 x1, .int .u64 x2]) (by rfl) (fun W hW => ?_) ?_
        · (try dsimp only at hW)
          have y := Sn.bk_below HR0.out hW (Sn.bk_lt HR0.out)
          have y0 := Sn.bk_c y 0
          have y1 := Sn.bk_c y 1
          simp only [List.getElem?_toArray, List.getElem?_cons_zero, List.getElem?_cons_succ] at y0 y1
          go_simp
        try simp only [List.getElem_toArray, List.getElem_cons_succ, List.getElem_cons_zero, Act.put, List.setIfInBounds_toArray, List.set_cons_zero, List.set_cons_succ]
        refine qc_take (.agg #[.int .u64 p1, .int .u64 p2]) (by rfl) (fun W hW => ?_) ?_
        · (try dsimp only at hW)
          go_simp
          exact (HX.out W).mono fun e w9 h9 => ⟨h9.1, Sn.below_next hW h9.2 hW.size⟩
        try simp only [List.getElem_toArray, List.getElem_cons_succ, List.getElem_cons_zero, Act.put, List.setIfInBounds_toArray, List.set_cons_zero, List.set_cons_succ]
        refine qc_take (.int .i64 a) (by rfl) (fun W hW => ?_) ?_
        · (try dsimp only at hW)
          go_simp
        try simp only [List.getElem_toArray, List.getElem_cons_succ, List.getElem_cons_zero, Act.put, List.setIfInBounds_toArray, List.set_cons_zero, List.set_cons_succ]
        refine qc_take (.agg #[.int .u64 y1, .int .u64 y2]) (by rfl) (fun W hW => ?_) ?_
        · (try dsimp only at hW)
          have y := Sn.bk_below HR1.out hW (Sn.bk_lt HR1.out)
          have y0 := Sn.bk_c y 0
          have y1 := Sn.bk_c y 1
          simp only [List.getElem?_toArray, List.getElem?_cons_zero, List.getElem?_cons_succ] at y0 y1
          go_simp
        try simp only [List.getElem_toArray, List.getElem_cons_succ, List.getElem_cons_zero, Act.put, List.setIfInBounds_toArray, List.set_cons_zero, List.set_cons_succ]
        refine qc_take (.agg #[.int .u64 q1, .int .u64 q2]) (by rfl) (fun W hW => ?_) ?_
        · (try dsimp only at hW)
          go_simp
          exact (HY.out W).mono fun e w9 h9 => ⟨h9.1, Sn.below_next hW h9.2 hW.size⟩
        try simp only [List.getElem_toArray, List.getElem_cons_succ, List.getElem_cons_zero, Act.put, List.setIfInBounds_toArray, List.set_cons_zero, List.set_cons_succ]
        refine wpQuiet_nil ?_
        intro v2 hb
        have hr0 := Sn.bk_below HR0.out hb (Sn.bk_lt HR0.out)
        have hr1 := Sn.bk_below HR1.out hb (Sn.bk_lt HR1.out)
        have hr2 := Sn.bk_below HR2.out hb (Sn.bk_lt HR2.out)
        have hB := Sn.below_next HB.out hb HB.out.size
        clear HB HR0 HR1 HR2 hb
        have HB := Lib.hid hB
        have HR0 := Lib.hid hr0
        have HR1 := Lib.hid hr1
        have HR2 := Lib.hid hr2
        clear hB hr0 hr1 hr2
        have H1C := Lib.hid (show (#[.int .u64 p1, .int .u64 p2] : Array Value).all (·.oneCell') = true by simp [Value.oneCell'])
        have H2C := Lib.hid (show (#[.int .u64 q1, .int .u64 q2] : Array Value).all (·.oneCell') = true by simp [Value.oneCell'])
        refine Sn.store_sp (.tmp 4) (.tmp 11) (w.heap.size) #[.int .u64 x1, .int .u64 x2] #[.int .u64 p1, .int .u64 p2] HR0.out rfl rfl rfl rfl rfl rfl H1C.out ?_
        refine Sn.store_sp (.tmp 5) (.tmp 14) (w.heap.size + 1) #[.int .u64 y1, .int .u64 y2] #[.int .u64 q1, .int .u64 q2] (Sn.bk_row_other HR1.out (by omega) _) rfl rfl rfl rfl rfl rfl H2C.out ?_
        have hB : Below w.heap.size w ((v2.setRow (w.heap.size) #[.int .u64 p1, .int .u64 p2]).setRow (w.heap.size + 1) #[.int .u64 q1, .int .u64 q2]) := Sn.below_set (Sn.below_set HB.out (by omega) _) (by omega) _
        have hr0 : Sn.Bk ((v2.setRow (w.heap.size) #[.int .u64 p1, .int .u64 p2]).setRow (w.heap.size + 1) #[.int .u64 q1, .int .u64 q2]) (w.heap.size) 24 #[.int .u64 p1, .int .u64 p2] := Sn.bk_row_other (Sn.bk_row HR0.out _) (by omega) _
        have hr1 : Sn.Bk ((v2.setRow (w.heap.size) #[.int .u64 p1, .int .u64 p2]).setRow (w.heap.size + 1) #[.int .u64 q1, .int .u64 q2]) (w.heap.size + 1) 24 #[.int .u64 q1, .int .u64 q2] := Sn.bk_row (Sn.bk_row_other HR1.out (by omega) _) _
        have hr2 : Sn.Bk ((v2.setRow (w.heap.size) #[.int .u64 p1, .int .u64 p2]).setRow (w.heap.size + 1) #[.int .u64 q1, .int .u64 q2]) (w.heap.size + 1 + 1) 24 #[.int .u64 0, .int .u64 0] := Sn.bk_row_other (Sn.bk_row_other HR2.out (by omega) _) (by omega) _
        clear HB HR0 HR1 HR2 H1C H2C
        generalize ((v2.setRow (w.heap.size) #[.int .u64 p1, .int .u64 p2]).setRow (w.heap.size + 1) #[.int .u64 q1, .int .u64 q2]) = v3 at *
        have HB := Lib.hid hB
        have HR0 := Lib.hid hr0
        have HR1 := Lib.hid hr1
        have HR2 := Lib.hid hr2
        clear hB hr0 hr1 hr2 HX HY v v2
        have c0_0 := Sn.bk_c HR0.out 0
        have c0_1 := Sn.bk_c HR0.out 1
        have c1_0 := Sn.bk_c HR1.out 0
        have c1_1 := Sn.bk_c HR1.out 1
        simp only [List.getElem?_toArray, List.getElem?_cons_zero, List.getElem?_cons_succ] at c0_0 c0_1 c1_0 c1_1
        go_wp2_with (with_reducible refine Sn.store_sp (.tmp 6) (.tmp 31) (w.heap.size + 1 + 1) #[.int .u64 0, .int .u64 0] #[.int .u64 0, .int .u64 0] (Sn.bk_old HR2.out _) rfl rfl rfl rfl rfl rfl (by simp [Value.oneCell']) ?_)
        exact Sn.ret_sp2 (w.heap.size + 1 + 1) #[.int .u64 0, .int .u64 0] _ (Sn.bk_row (Sn.bk_old HR2.out _) _) rfl rfl rfl rfl rfl ⟨rfl, Sn.below_set (HB.out.alloc HB.out.size _) (by omega) _⟩
      · rw [if_neg hc]
        have hd : decide (q1 > q2) = false := by simpa using hc
        clear hc
        go_enter Try.func15, Try.ntmps15
        go_upto_region 1 with (fail)
        have hB : Below w.heap.size w (((w.alloc (.cells #[.int .u64 x1, .int .u64 x2] 24)).alloc (.cells #[.int .u64 y1, .int .u64 y2] 24)).alloc (.cells #[.int .u64 0, .int .u64 0] 24)) := ((((Below.refl _ _).alloc (Nat.le_refl _) _).alloc (by simp) _).alloc (by simp; omega) _)
        have hr0 : Sn.Bk (((w.alloc (.cells #[.int .u64 x1, .int .u64 x2] 24)).alloc (.cells #[.int .u64 y1, .int .u64 y2] 24)).alloc (.cells #[.int .u64 0, .int .u64 0] 24)) (w.heap.size) 24 #[.int .u64 x1, .int .u64 x2] := Sn.bk_old (Sn.bk_old (Sn.bk_new _ _ _) _) _
        have hr1 : Sn.Bk (((w.alloc (.cells #[.int .u64 x1, .int .u64 x2] 24)).alloc (.cells #[.int .u64 y1, .int .u64 y2] 24)).alloc (.cells #[.int .u64 0, .int .u64 0] 24)) (w.heap.size + 1) 24 #[.int .u64 y1, .int .u64 y2] := Sn.bk_old (Sn.bk_at (by simp)) _
        have hr2 : Sn.Bk (((w.alloc (.cells #[.int .u64 x1, .int .u64 x2] 24)).alloc (.cells #[.int .u64 y1, .int .u64 y2] 24)).alloc (.cells #[.int .u64 0, .int .u64 0] 24)) (w.heap.size + 1 + 1) 24 #[.int .u64 0, .int .u64 0] := Sn.bk_at (by simp)
        generalize (((w.alloc (.cells #[.int .u64 x1, .int .u64 x2] 24)).alloc (.cells #[.int .u64 y1, .int .u64 y2] 24)).alloc (.cells #[.int .u64 0, .int .u64 0] 24)) = v at *
        have HB := Lib.hid hB
        have HR0 := Lib.hid hr0
        have HR1 := Lib.hid hr1
        have HR2 := Lib.hid hr2
        clear hB hr0 hr1 hr2
        refine qc_tail (fun W => Below v.heap.size v W) 6 (by kernel_rfl) (by kernel_rfl) (Below.refl _ _).drew ?_
        simp only [List.take_succ_cons, List.take_zero, List.drop_succ_cons, List.drop_zero]
        refine qc_take (.int .i64 a) (by rfl) (fun W hW => ?_) ?_
        · (try dsimp only at hW)
          go_simp
        try simp only [List.getElem_toArray, List.getElem_cons_succ, List.getElem_cons_zero, Act.put, List.setIfInBounds_toArray, List.set_cons_zero, List.set_cons_succ]
        refine qc_take (.agg #[.int .u64 x1, .int .u64 x2]) (by rfl) (fun W hW => ?_) ?_
        · (try dsimp only at hW)
          have y := Sn.bk_below HR0.out hW (Sn.bk_lt HR0.out)
          have y0 := Sn.bk_c y 0
          have y1 := Sn.bk_c y 1
          simp only [List.getElem?_toArray, List.getElem?_cons_zero, List.getElem?_cons_succ] at y0 y1
          go_simp
        try simp only [List.getElem_toArray, List.getElem_cons_succ, List.getElem_cons_zero, Act.put, List.setIfInBounds_toArray, List.set_cons_zero, List.set_cons_succ]
        refine qc_take (.agg #[.int .u64 p1, .int .u64 p2]) (by rfl) (fun W hW => ?_) ?_
        · (try dsimp only at hW)
          go_simp
          exact (HX.out W).mono fun e w9 h9 => ⟨h9.1, Sn.below_next hW h9.2 hW.size⟩
        try simp only [List.getElem_toArray, List.getElem_cons_succ, List.getElem_cons_zero, Act.put, List.setIfInBounds_toArray, List.set_cons_zero, List.set_cons_succ]
        refine qc_take (.int .i64 a) (by rfl) (fun W hW => ?_) ?_
        · (try dsimp only at hW)
          go_simp
        try simp only [List.getElem_toArray, List.getElem_cons_succ, List.getElem_cons_zero, Act.put, List.setIfInBounds_toArray, List.set_cons_zero, List.set_cons_succ]
        refine qc_take (.agg #[.int .u64 y1, .int .u64 y2]) (by rfl) (fun W hW => ?_) ?_
        · (try dsimp only at hW)
          have y := Sn.bk_below HR1.out hW (Sn.bk_lt HR1.out)
          have y0 := Sn.bk_c y 0
          have y1 := Sn.bk_c y 1
          simp only [List.getElem?_toArray, List.getElem?_cons_zero, List.getElem?_cons_succ] at y0 y1
          go_simp
        try simp only [List.getElem_toArray, List.getElem_cons_succ, List.getElem_cons_zero, Act.put, List.setIfInBounds_toArray, List.set_cons_zero, List.set_cons_succ]
        refine qc_take (.agg #[.int .u64 q1, .int .u64 q2]) (by rfl) (fun W hW => ?_) ?_
        · (try dsimp only at hW)
          go_simp
          exact (HY.out W).mono fun e w9 h9 => ⟨h9.1, Sn.below_next hW h9.2 hW.size⟩
        try simp only [List.getElem_toArray, List.getElem_cons_succ, List.getElem_cons_zero, Act.put, List.setIfInBounds_toArray, List.set_cons_zero, List.set_cons_succ]
        refine wpQuiet_nil ?_
        intro v2 hb
        have hr0 := Sn.bk_below HR0.out hb (Sn.bk_lt HR0.out)
        have hr1 := Sn.bk_below HR1.out hb (Sn.bk_lt HR1.out)
        have hr2 := Sn.bk_below HR2.out hb (Sn.bk_lt HR2.out)
        have hB := Sn.below_next HB.out hb HB.out.size
        clear HB HR0 HR1 HR2 hb
        have HB := Lib.hid hB
        have HR0 := Lib.hid hr0
        have HR1 := Lib.hid hr1
        have HR2 := Lib.hid hr2
        clear hB hr0 hr1 hr2
        have H1C := Lib.hid (show (#[.int .u64 p1, .int .u64 p2] : Array Value).all (·.oneCell') = true by simp [Value.oneCell'])
        have H2C := Lib.hid (show (#[.int .u64 q1, .int .u64 q2] : Array Value).all (·.oneCell') = true by simp [Value.oneCell'])
        refine Sn.store_sp (.tmp 4) (.tmp 11) (w.heap.size) #[.int .u64 x1, .int .u64 x2] #[.int .u64 p1, .int .u64 p2] HR0.out rfl rfl rfl rfl rfl rfl H1C.out ?_
        refine Sn.store_sp (.tmp 5) (.tmp 14) (w.heap.size + 1) #[.int .u64 y1, .int .u64 y2] #[.int .u64 q1, .int .u64 q2] (Sn.bk_row_other HR1.out (by omega) _) rfl rfl rfl rfl rfl rfl H2C.out ?_
        have hB : Below w.heap.size w ((v2.setRow (w.heap.size) #[.int .u64 p1, .int .u64 p2]).setRow (w.heap.size + 1) #[.int .u64 q1, .int .u64 q2]) := Sn.below_set (Sn.below_set HB.out (by omega) _) (by omega) _
        have hr0 : Sn.Bk ((v2.setRow (w.heap.size) #[.int .u64 p1, .int .u64 p2]).setRow (w.heap.size + 1) #[.int .u64 q1, .int .u64 q2]) (w.heap.size) 24 #[.int .u64 p1, .int .u64 p2] := Sn.bk_row_other (Sn.bk_row HR0.out _) (by omega) _
        have hr1 : Sn.Bk ((v2.setRow (w.heap.size) #[.int .u64 p1, .int .u64 p2]).setRow (w.heap.size + 1) #[.int .u64 q1, .int .u64 q2]) (w.heap.size + 1) 24 #[.int .u64 q1, .int .u64 q2] := Sn.bk_row (Sn.bk_row_other HR1.out (by omega) _) _
        have hr2 : Sn.Bk ((v2.setRow (w.heap.size) #[.int .u64 p1, .int .u64 p2]).setRow (w.heap.size + 1) #[.int .u64 q1, .int .u64 q2]) (w.heap.size + 1 + 1) 24 #[.int .u64 0, .int .u64 0] := Sn.bk_row_other (Sn.bk_row_other HR2.out (by omega) _) (by omega) _
        clear HB HR0 HR1 HR2 H1C H2C
        generalize ((v2.setRow (w.heap.size) #[.int .u64 p1, .int .u64 p2]).setRow (w.heap.size + 1) #[.int .u64 q1, .int .u64 q2]) = v3 at *
        have HB := Lib.hid hB
        have HR0 := Lib.hid hr0
        have HR1 := Lib.hid hr1
        have HR2 := Lib.hid hr2
        clear hB hr0 hr1 hr2 HX HY v v2
        have c0_0 := Sn.bk_c HR0.out 0
        have c0_1 := Sn.bk_c HR0.out 1
        have c1_0 := Sn.bk_c HR1.out 0
        have c1_1 := Sn.bk_c HR1.out 1
        simp only [List.getElem?_toArray, List.getElem?_cons_zero, List.getElem?_cons_succ] at c0_0 c0_1 c1_0 c1_1
        go_wp2_with (with_reducible refine Sn.store_sp (.tmp 6) (.tmp 32) (w.heap.size + 1 + 1) #[.int .u64 0, .int .u64 0] #[.int .u64 q1, .int .u64 q2] (Sn.bk_old HR2.out _) rfl rfl rfl rfl rfl rfl (by simp [Value.oneCell']) ?_)
        exact Sn.ret_sp2 (w.heap.size + 1 + 1) #[.int .u64 q1, .int .u64 q2] _ (Sn.bk_row (Sn.bk_old HR2.out _) _) rfl rfl rfl rfl rfl ⟨rfl, Sn.below_set (HB.out.alloc HB.out.size _) (by omega) _⟩
    · rw [show min p2 q2 = p2 by omega]
      by_cases hc : p2 < q1
      · rw [if_pos hc]
        have hd : decide (q1 > p2) = true := by simpa using hc
        clear hc
        go_enter Try.func15, Try.ntmps15
        go_upto_region 1 with (fail)
        have hB : Below w.heap.size w (((w.alloc (.cells #[.int .u64 x1, .int .u64 x2] 24)).alloc (.cells #[.int .u64 y1, .int .u64 y2] 24)).alloc (.cells #[.int .u64 0, .int .u64 0] 24)) := ((((Below.refl _ _).alloc (Nat.le_refl _) _).alloc (by simp) _).alloc (by simp; omega) _)
        have hr0 : Sn.Bk (((w.alloc (.cells #[.int .u64 x1, .int .u64 x2] 24)).alloc (.cells #[.int .u64 y1, .int .u64 y2] 24)).alloc (.cells #[.int .u64 0, .int .u64 0] 24)) (w.heap.size) 24 #[.int .u64 x1, .int .u64 x2] := Sn.bk_old (Sn.bk_old (Sn.bk_new _ _ _) _) _
        have hr1 : Sn.Bk (((w.alloc (.cells #[.int .u64 x1, .int .u64 x2] 24)).alloc (.cells #[.int .u64 y1, .int .u64 y2] 24)).alloc (.cells #[.int .u64 0, .int .u64 0] 24)) (w.heap.size + 1) 24 #[.int .u64 y1, .int .u64 y2] := Sn.bk_old (Sn.bk_at (by simp)) _
        have hr2 : Sn.Bk (((w.alloc (.cells #[.int .u64 x1, .int .u64 x2] 24)).alloc (.cells #[.int .u64 y1, .int .u64 y2] 24)).alloc (.cells #[.int .u64 0, .int .u64 0] 24)) (w.heap.size + 1 + 1) 24 #[.int .u64 0, .int .u64 0] := Sn.bk_at (by simp)
        generalize (((w.alloc (.cells #[.int .u64 x1, .int .u64 x2] 24)).alloc (.cells #[.int .u64 y1, .int .u64 y2] 24)).alloc (.cells #[.int .u64 0, .int .u64 0] 24)) = v at *
        have HB := Lib.hid hB
        have HR0 := Lib.hid hr0
        have HR1 := Lib.hid hr1
        have HR2 := Lib.hid hr2
        clear hB hr0 hr1 hr2
        refine qc_tail (fun W => Below v.heap.size v W) 6 (by kernel_rfl) (by kernel_rfl) (Below.refl _ _).drew ?_
        simp only [List.take_succ_cons, List.take_zero, List.drop_succ_cons, List.drop_zero]
        refine qc_take (.int .i64 a) (by rfl) (fun W hW => ?_) ?_
        · (try dsimp only at hW)
          go_simp
        try simp only [List.getElem_toArray, List.getElem_cons_succ, List.getElem_cons_zero, Act.put, List.setIfInBounds_toArray, List.set_cons_zero, List.set_cons_succ]
        refine qc_take (.agg #[.int .u64 x1, .int .u64 x2]) (by rfl) (fun W hW => ?_) ?_
        · (try dsimp only at hW)
          have y := Sn.bk_below HR0.out hW (Sn.bk_lt HR0.out)
          have y0 := Sn.bk_c y 0
          have y1 := Sn.bk_c y 1
          simp only [List.getElem?_toArray, List.getElem?_cons_zero, List.getElem?_cons_succ] at y0 y1
          go_simp
        try simp only [List.getElem_toArray, List.getElem_cons_succ, List.getElem_cons_zero, Act.put, List.setIfInBounds_toArray, List.set_cons_zero, List.set_cons_succ]
        refine qc_take (.agg #[.int .u64 p1, .int .u64 p2]) (by rfl) (fun W hW => ?_) ?_
        · (try dsimp only at hW)
          go_simp
          exact (HX.out W).mono fun e w9 h9 => ⟨h9.1, Sn.below_next hW h9.2 hW.size⟩
        try simp only [List.getElem_toArray, List.getElem_cons_succ, List.getElem_cons_zero, Act.put, List.setIfInBounds_toArray, List.set_cons_zero, List.set_cons_succ]
        refine qc_take (.int .i64 a) (by rfl) (fun W hW => ?_) ?_
        · (try dsimp only at hW)
          go_simp
        try simp only [List.getElem_toArray, List.getElem_cons_succ, List.getElem_cons_zero, Act.put, List.setIfInBounds_toArray, List.set_cons_zero, List.set_cons_succ]
        refine qc_take (.agg #[.int .u64 y1, .int .u64 y2]) (by rfl) (fun W hW => ?_) ?_
        · (try dsimp only at hW)
          have y := Sn.bk_below HR1.out hW (Sn.bk_lt HR1.out)
          have y0 := Sn.bk_c y 0
          have y1 := Sn.bk_c y 1
          simp only [List.getElem?_toArray, List.getElem?_cons_zero, List.getElem?_cons_succ] at y0 y1
          go_simp
        try simp only [List.getElem_toArray, List.getElem_cons_succ, List.getElem_cons_zero, Act.put, List.setIfInBounds_toArray, List.set_cons_zero, List.set_cons_succ]
        refine qc_take (.agg #[.int .u64 q1, .int .u64 q2]) (by rfl) (fun W hW => ?_) ?_
        · (try dsimp only at hW)
          go_simp
          exact (HY.out W).mono fun e w9 h9 => ⟨h9.1, Sn.below_next hW h9.2 hW.size⟩
        try simp only [List.getElem_toArray, List.getElem_cons_succ, List.getElem_cons_zero, Act.put, List.setIfInBounds_toArray, List.set_cons_zero, List.set_cons_succ]
        refine wpQuiet_nil ?_
        intro v2 hb
        have hr0 := Sn.bk_below HR0.out hb (Sn.bk_lt HR0.out)
        have hr1 := Sn.bk_below HR1.out hb (Sn.bk_lt HR1.out)
        have hr2 := Sn.bk_below HR2.out hb (Sn.bk_lt HR2.out)
        have hB := Sn.below_next HB.out hb HB.out.size
        clear HB HR0 HR1 HR2 hb
        have HB := Lib.hid hB
        have HR0 := Lib.hid hr0
        have HR1 := Lib.hid hr1
        have HR2 := Lib.hid hr2
        clear hB hr0 hr1 hr2
        have H1C := Lib.hid (show (#[.int .u64 p1, .int .u64 p2] : Array Value).all (·.oneCell') = true by simp [Value.oneCell'])
        have H2C := Lib.hid (show (#[.int .u64 q1, .int .u64 q2] : Array Value).all (·.oneCell') = true by simp [Value.oneCell'])
        refine Sn.store_sp (.tmp 4) (.tmp 11) (w.heap.size) #[.int .u64 x1, .int .u64 x2] #[.int .u64 p1, .int .u64 p2] HR0.out rfl rfl rfl rfl rfl rfl H1C.out ?_
        refine Sn.store_sp (.tmp 5) (.tmp 14) (w.heap.size + 1) #[.int .u64 y1, .int .u64 y2] #[.int .u64 q1, .int .u64 q2] (Sn.bk_row_other HR1.out (by omega) _) rfl rfl rfl rfl rfl rfl H2C.out ?_
        have hB : Below w.heap.size w ((v2.setRow (w.heap.size) #[.int .u64 p1, .int .u64 p2]).setRow (w.heap.size + 1) #[.int .u64 q1, .int .u64 q2]) := Sn.below_set (Sn.below_set HB.out (by omega) _) (by omega) _
        have hr0 : Sn.Bk ((v2.setRow (w.heap.size) #[.int .u64 p1, .int .u64 p2]).setRow (w.heap.size + 1) #[.int .u64 q1, .int .u64 q2]) (w.heap.size) 24 #[.int .u64 p1, .int .u64 p2] := Sn.bk_row_other (Sn.bk_row HR0.out _) (by omega) _
        have hr1 : Sn.Bk ((v2.setRow (w.heap.size) #[.int .u64 p1, .int .u64 p2]).setRow (w.heap.size + 1) #[.int .u64 q1, .int .u64 q2]) (w.heap.size + 1) 24 #[.int .u64 q1, .int .u64 q2] := Sn.bk_row (Sn.bk_row_other HR1.out (by omega) _) _
        have hr2 : Sn.Bk ((v2.setRow (w.heap.size) #[.int .u64 p1, .int .u64 p2]).setRow (w.heap.size + 1) #[.int .u64 q1, .int .u64 q2]) (w.heap.size + 1 + 1) 24 #[.int .u64 0, .int .u64 0] := Sn.bk_row_other (Sn.bk_row_other HR2.out (by omega) _) (by omega) _
        clear HB HR0 HR1 HR2 H1C H2C
        generalize ((v2.setRow (w.heap.size) #[.int .u64 p1, .int .u64 p2]).setRow (w.heap.size + 1) #[.int .u64 q1, .int .u64 q2]) = v3 at *
        have HB := Lib.hid hB
        have HR0 := Lib.hid hr0
        have HR1 := Lib.hid hr1
        have HR2 := Lib.hid hr2
        clear hB hr0 hr1 hr2 HX HY v v2
        have c0_0 := Sn.bk_c HR0.out 0
        have c0_1 := Sn.bk_c HR0.out 1
        have c1_0 := Sn.bk_c HR1.out 0
        have c1_1 := Sn.bk_c HR1.out 1
        simp only [List.getElem?_toArray, List.getElem?_cons_zero, List.getElem?_cons_succ] at c0_0 c0_1 c1_0 c1_1
        go_wp2_with (with_reducible refine Sn.store_sp (.tmp 6) (.tmp 31) (w.heap.size + 1 + 1) #[.int .u64 0, .int .u64 0] #[.int .u64 0, .int .u64 0] (Sn.bk_old HR2.out _) rfl rfl rfl rfl rfl rfl (by simp [Value.oneCell']) ?_)
        exact Sn.ret_sp2 (w.heap.size + 1 + 1) #[.int .u64 0, .int .u64 0] _ (Sn.bk_row (Sn.bk_old HR2.out _) _) rfl rfl rfl rfl rfl ⟨rfl, Sn.below_set (HB.out.alloc HB.out.size _) (by omega) _⟩
      · rw [if_neg hc]
        have hd : decide (q1 > p2) = false := by simpa using hc
        clear hc
        go_enter Try.func15, Try.ntmps15
        go_upto_region 1 with (fail)
        have hB : Below w.heap.size w (((w.alloc (.cells #[.int .u64 x1, .int .u64 x2] 24)).alloc (.cells #[.int .u64 y1, .int .u64 y2] 24)).alloc (.cells #[.int .u64 0, .int .u64 0] 24)) := ((((Below.refl _ _).alloc (Nat.le_refl _) _).alloc (by simp) _).alloc (by simp; omega) _)
        have hr0 : Sn.Bk (((w.alloc (.cells #[.int .u64 x1, .int .u64 x2] 24)).alloc (.cells #[.int .u64 y1, .int .u64 y2] 24)).alloc (.cells #[.int .u64 0, .int .u64 0] 24)) (w.heap.size) 24 #[.int .u64 x1, .int .u64 x2] := Sn.bk_old (Sn.bk_old (Sn.bk_new _ _ _) _) _
        have hr1 : Sn.Bk (((w.alloc (.cells #[.int .u64 x1, .int .u64 x2] 24)).alloc (.cells #[.int .u64 y1, .int .u64 y2] 24)).alloc (.cells #[.int .u64 0, .int .u64 0] 24)) (w.heap.size + 1) 24 #[.int .u64 y1, .int .u64 y2] := Sn.bk_old (Sn.bk_at (by simp)) _
        have hr2 : Sn.Bk (((w.alloc (.cells #[.int .u64 x1, .int .u64 x2] 24)).alloc (.cells #[.int .u64 y1, .int .u64 y2] 24)).alloc (.cells #[.int .u64 0, .int .u64 0] 24)) (w.heap.size + 1 + 1) 24 #[.int .u64 0, .int .u64 0] := Sn.bk_at (by simp)
        generalize (((w.alloc (.cells #[.int .u64 x1, .int .u64 x2] 24)).alloc (.cells #[.int .u64 y1, .int .u64 y2] 24)).alloc (.cells #[.int .u64 0, .int .u64 0] 24)) = v at *
        have HB := Lib.hid hB
        have HR0 := Lib.hid hr0
        have HR1 := Lib.hid hr1
        have HR2 := Lib.hid hr2
        clear hB hr0 hr1 hr2
        refine qc_tail (fun W => Below v.heap.size v W) 6 (by kernel_rfl) (by kernel_rfl) (Below.refl _ _).drew ?_
        simp only [List.take_succ_cons, List.take_zero, List.drop_succ_cons, List.drop_zero]
        refine qc_take (.int .i64 a) (by rfl) (fun W hW => ?_) ?_
        · (try dsimp only at hW)
          go_simp
        try simp only [List.getElem_toArray, List.getElem_cons_succ, List.getElem_cons_zero, Act.put, List.setIfInBounds_toArray, List.set_cons_zero, List.set_cons_succ]
        refine qc_take (.agg #[.int .u64 x1, .int .u64 x2]) (by rfl) (fun W hW => ?_) ?_
        · (try dsimp only at hW)
          have y := Sn.bk_below HR0.out hW (Sn.bk_lt HR0.out)
          have y0 := Sn.bk_c y 0
          have y1 := Sn.bk_c y 1
          simp only [List.getElem?_toArray, List.getElem?_cons_zero, List.getElem?_cons_succ] at y0 y1
          go_simp
        try simp only [List.getElem_toArray, List.getElem_cons_succ, List.getElem_cons_zero, Act.put, List.setIfInBounds_toArray, List.set_cons_zero, List.set_cons_succ]
        refine qc_take (.agg #[.int .u64 p1, .int .u64 p2]) (by rfl) (fun W hW => ?_) ?_
        · (try dsimp only at hW)
          go_simp
          exact (HX.out W).mono fun e w9 h9 => ⟨h9.1, Sn.below_next hW h9.2 hW.size⟩
        try simp only [List.getElem_toArray, List.getElem_cons_succ, List.getElem_cons_zero, Act.put, List.setIfInBounds_toArray, List.set_cons_zero, List.set_cons_succ]
        refine qc_take (.int .i64 a) (by rfl) (fun W hW => ?_) ?_
        · (try dsimp only at hW)
          go_simp
        try simp only [List.getElem_toArray, List.getElem_cons_succ, List.getElem_cons_zero, Act.put, List.setIfInBounds_toArray, List.set_cons_zero, List.set_cons_succ]
        refine qc_take (.agg #[.int .u64 y1, .int .u64 y2]) (by rfl) (fun W hW => ?_) ?_
        · (try dsimp only at hW)
          have y := Sn.bk_below HR1.out hW (Sn.bk_lt HR1.out)
          have y0 := Sn.bk_c y 0
          have y1 := Sn.bk_c y 1
          simp only [List.getElem?_toArray, List.getElem?_cons_zero, List.getElem?_cons_succ] at y0 y1
          go_simp
        try simp only [List.getElem_toArray, List.getElem_cons_succ, List.getElem_cons_zero, Act.put, List.setIfInBounds_toArray, List.set_cons_zero, List.set_cons_succ]
        refine qc_take (.agg #[.int .u64 q1, .int .u64 q2]) (by rfl) (fun W hW => ?_) ?_
        · (try dsimp only at hW)
          go_simp
          exact (HY.out W).mono fun e w9 h9 => ⟨h9.1, Sn.below_next hW h9.2 hW.size⟩
        try simp only [List.getElem_toArray, List.getElem_cons_succ, List.getElem_cons_zero, Act.put, List.setIfInBounds_toArray, List.set_cons_zero, List.set_cons_succ]
        refine wpQuiet_nil ?_
        intro v2 hb
        have hr0 := Sn.bk_below HR0.out hb (Sn.bk_lt HR0.out)
        have hr1 := Sn.bk_below HR1.out hb (Sn.bk_lt HR1.out)
        have hr2 := Sn.bk_below HR2.out hb (Sn.bk_lt HR2.out)
        have hB := Sn.below_next HB.out hb HB.out.size
        clear HB HR0 HR1 HR2 hb
        have HB := Lib.hid hB
        have HR0 := Lib.hid hr0
        have HR1 := Lib.hid hr1
        have HR2 := Lib.hid hr2
        clear hB hr0 hr1 hr2
        have H1C := Lib.hid (show (#[.int .u64 p1, .int .u64 p2] : Array Value).all (·.oneCell') = true by simp [Value.oneCell'])
        have H2C := Lib.hid (show (#[.int .u64 q1, .int .u64 q2] : Array Value).all (·.oneCell') = true by simp [Value.oneCell'])
        refine Sn.store_sp (.tmp 4) (.tmp 11) (w.heap.size) #[.int .u64 x1, .int .u64 x2] #[.int .u64 p1, .int .u64 p2] HR0.out rfl rfl rfl rfl rfl rfl H1C.out ?_
        refine Sn.store_sp (.tmp 5) (.tmp 14) (w.heap.size + 1) #[.int .u64 y1, .int .u64 y2] #[.int .u64 q1, .int .u64 q2] (Sn.bk_row_other HR1.out (by omega) _) rfl rfl rfl rfl rfl rfl H2C.out ?_
        have hB : Below w.heap.size w ((v2.setRow (w.heap.size) #[.int .u64 p1, .int .u64 p2]).setRow (w.heap.size + 1) #[.int .u64 q1, .int .u64 q2]) := Sn.below_set (Sn.below_set HB.out (by omega) _) (by omega) _
        have hr0 : Sn.Bk ((v2.setRow (w.heap.size) #[.int .u64 p1, .int .u64 p2]).setRow (w.heap.size + 1) #[.int .u64 q1, .int .u64 q2]) (w.heap.size) 24 #[.int .u64 p1, .int .u64 p2] := Sn.bk_row_other (Sn.bk_row HR0.out _) (by omega) _
        have hr1 : Sn.Bk ((v2.setRow (w.heap.size) #[.int .u64 p1, .int .u64 p2]).setRow (w.heap.size + 1) #[.int .u64 q1, .int .u64 q2]) (w.heap.size + 1) 24 #[.int .u64 q1, .int .u64 q2] := Sn.bk_row (Sn.bk_row_other HR1.out (by omega) _) _
        have hr2 : Sn.Bk ((v2.setRow (w.heap.size) #[.int .u64 p1, .int .u64 p2]).setRow (w.heap.size + 1) #[.int .u64 q1, .int .u64 q2]) (w.heap.size + 1 + 1) 24 #[.int .u64 0, .int .u64 0] := Sn.bk_row_other (Sn.bk_row_other HR2.out (by omega) _) (by omega) _
        clear HB HR0 HR1 HR2 H1C H2C
        generalize ((v2.setRow (w.heap.size) #[.int .u64 p1, .int .u64 p2]).setRow (w.heap.size + 1) #[.int .u64 q1, .int .u64 q2]) = v3 at *
        have HB := Lib.hid hB
        have HR0 := Lib.hid hr0
        have HR1 := Lib.hid hr1
        have HR2 := Lib.hid hr2
        clear hB hr0 hr1 hr2 HX HY v v2
        have c0_0 := Sn.bk_c HR0.out 0
        have c0_1 := Sn.bk_c HR0.out 1
        have c1_0 := Sn.bk_c HR1.out 0
        have c1_1 := Sn.bk_c HR1.out 1
        simp only [List.getElem?_toArray, List.getElem?_cons_zero, List.getElem?_cons_succ] at c0_0 c0_1 c1_0 c1_1
        go_wp2_with (with_reducible refine Sn.store_sp (.tmp 6) (.tmp 32) (w.heap.size + 1 + 1) #[.int .u64 0, .int .u64 0] #[.int .u64 q1, .int .u64 p2] (Sn.bk_old HR2.out _) rfl rfl rfl rfl rfl rfl (by simp [Value.oneCell']) ?_)
        exact Sn.ret_sp2 (w.heap.size + 1 + 1) #[.int .u64 q1, .int .u64 p2] _ (Sn.bk_row (Sn.bk_old HR2.out _) _) rfl rfl rfl rfl rfl ⟨rfl, Sn.below_set (HB.out.alloc HB.out.size _) (by omega) _⟩
  · rw [show max p1 q1 = p1 by omega]
    by_cases h2 : q2 < p2
    · rw [show min p2 q2 = q2 by omega]
      by_cases hc : q2 < p1
      · rw [if_pos hc]
        have hd : decide (p1 > q2) = true := by simpa using hc
        clear hc
        go_enter Try.func15, Try.ntmps15
        go_upto_region 1 with (fail)
        have hB : Below w.heap.size w (((w.alloc (.cells #[.int .u64 x1, .int .u64 x2] 24)).alloc (.cells #[.int .u64 y1, .int .u64 y2] 24)).alloc (.cells #[.int .u64 0, .int .u64 0] 24)) := ((((Below.refl _ _).alloc (Nat.le_refl _) _).alloc (by simp) _).alloc (by simp; omega) _)
        have hr0 : Sn.Bk (((w.alloc (.cells #[.int .u64 x1, .int .u64 x2] 24)).alloc (.cells #[.int .u64 y1, .int .u64 y2] 24)).alloc (.cells #[.int .u64 0, .int .u64 0] 24)) (w.heap.size) 24 #[.int .u64 x1, .int .u64 x2] := Sn.bk_old (Sn.bk_old (Sn.bk_new _ _ _) _) _
        have hr1 : Sn.Bk (((w.alloc (.cells #[.int .u64 x1, .int .u64 x2] 24)).alloc (.cells #[.int .u64 y1, .int .u64 y2] 24)).alloc (.cells #[.int .u64 0, .int .u64 0] 24)) (w.heap.size + 1) 24 #[.int .u64 y1, .int .u64 y2] := Sn.bk_old (Sn.bk_at (by simp)) _
        have hr2 : Sn.Bk (((w.alloc (.cells #[.int .u64 x1, .int .u64 x2] 24)).alloc (.cells #[.int .u64 y1, .int .u64 y2] 24)).alloc (.cells #[.int .u64 0, .int .u64 0] 24)) (w.heap.size + 1 + 1) 24 #[.int .u64 0, .int .u64 0] := Sn.bk_at (by simp)
        generalize (((w.alloc (.cells #[.int .u64 x1, .int .u64 x2] 24)).alloc (.cells #[.int .u64 y1, .int .u64 y2] 24)).alloc (.cells #[.int .u64 0, .int .u64 0] 24)) = v at *
        have HB := Lib.hid hB
        have HR0 := Lib.hid hr0
        have HR1 := Lib.hid hr1
        have HR2 := Lib.hid hr2
        clear hB hr0 hr1 hr2
        refine qc_tail (fun W => Below v.heap.size v W) 6 (by kernel_rfl) (by kernel_rfl) (Below.refl _ _).drew ?_
        simp only [List.take_succ_cons, List.take_zero, List.drop_succ_cons, List.drop_zero]
        refine qc_take (.int .i64 a) (by rfl) (fun W hW => ?_) ?_
        · (try dsimp only at hW)
          go_simp
        try simp only [List.getElem_toArray, List.getElem_cons_succ, List.getElem_cons_zero, Act.put, List.setIfInBounds_toArray, List.set_cons_zero, List.set_cons_succ]
        refine qc_take (.agg #[.int .u64 x1, .int .u64 x2]) (by rfl) (fun W hW => ?_) ?_
        · (try dsimp only at hW)
          have y := Sn.bk_below HR0.out hW (Sn.bk_lt HR0.out)
          have y0 := Sn.bk_c y 0
          have y1 := Sn.bk_c y 1
          simp only [List.getElem?_toArray, List.getElem?_cons_zero, List.getElem?_cons_succ] at y0 y1
          go_simp
        try simp only [List.getElem_toArray, List.getElem_cons_succ, List.getElem_cons_zero, Act.put, List.setIfInBounds_toArray, List.set_cons_zero, List.set_cons_succ]
        refine qc_take (.agg #[.int .u64 p1, .int .u64 p2]) (by rfl) (fun W hW => ?_) ?_
        · (try dsimp only at hW)
          go_simp
          exact (HX.out W).mono fun e w9 h9 => ⟨h9.1, Sn.below_next hW h9.2 hW.size⟩
        try simp only [List.getElem_toArray, List.getElem_cons_succ, List.getElem_cons_zero, Act.put, List.setIfInBounds_toArray, List.set_cons_zero, List.set_cons_succ]
        refine qc_take (.int .i64 a) (by rfl) (fun W hW => ?_) ?_
        · (try dsimp only at hW)
          go_simp
        try simp only [List.getElem_toArray, List.getElem_cons_succ, List.getElem_cons_zero, Act.put, List.setIfInBounds_toArray, List.set_cons_zero, List.set_cons_succ]
        refine qc_take (.agg #[.int .u64 y1, .int .u64 y2]) (by rfl) (fun W hW => ?_) ?_
        · (try dsimp only at hW)
          have y := Sn.bk_below HR1.out hW (Sn.bk_lt HR1.out)
          have y0 := Sn.bk_c y 0
          have y1 := Sn.bk_c y 1
          simp only [List.getElem?_toArray, List.getElem?_cons_zero, List.getElem?_cons_succ] at y0 y1
          go_simp
        try simp only [List.getElem_toArray, List.getElem_cons_succ, List.getElem_cons_zero, Act.put, List.setIfInBounds_toArray, List.set_cons_zero, List.set_cons_succ]
        refine qc_take (.agg #[.int .u64 q1, .int .u64 q2]) (by rfl) (fun W hW => ?_) ?_
        · (try dsimp only at hW)
          go_simp
          exact (HY.out W).mono fun e w9 h9 => ⟨h9.1, Sn.below_next hW h9.2 hW.size⟩
        try simp only [List.getElem_toArray, List.getElem_cons_succ, List.getElem_cons_zero, Act.put, List.setIfInBounds_toArray, List.set_cons_zero, List.set_cons_succ]
        refine wpQuiet_nil ?_
        intro v2 hb
        have hr0 := Sn.bk_below HR0.out hb (Sn.bk_lt HR0.out)
        have hr1 := Sn.bk_below HR1.out hb (Sn.bk_lt HR1.out)
        have hr2 := Sn.bk_below HR2.out hb (Sn.bk_lt HR2.out)
        have hB := Sn.below_next HB.out hb HB.out.size
        clear HB HR0 HR1 HR2 hb
        have HB := Lib.hid hB
        have HR0 := Lib.hid hr0
        have HR1 := Lib.hid hr1
        have HR2 := Lib.hid hr2
        clear hB hr0 hr1 hr2
        have H1C := Lib.hid (show (#[.int .u64 p1, .int .u64 p2] : Array Value).all (·.oneCell') = true by simp [Value.oneCell'])
        have H2C := Lib.hid (show (#[.int .u64 q1, .int .u64 q2] : Array Value).all (·.oneCell') = true by simp [Value.oneCell'])
        refine Sn.store_sp (.tmp 4) (.tmp 11) (w.heap.size) #[.int .u64 x1, .int .u64 x2] #[.int .u64 p1, .int .u64 p2] HR0.out rfl rfl rfl rfl rfl rfl H1C.out ?_
        refine Sn.store_sp (.tmp 5) (.tmp 14) (w.heap.size + 1) #[.int .u64 y1, .int .u64 y2] #[.int .u64 q1, .int .u64 q2] (Sn.bk_row_other HR1.out (by omega) _) rfl rfl rfl rfl rfl rfl H2C.out ?_
        have hB : Below w.heap.size w ((v2.setRow (w.heap.size) #[.int .u64 p1, .int .u64 p2]).setRow (w.heap.size + 1) #[.int .u64 q1, .int .u64 q2]) := Sn.below_set (Sn.below_set HB.out (by omega) _) (by omega) _
        have hr0 : Sn.Bk ((v2.setRow (w.heap.size) #[.int .u64 p1, .int .u64 p2]).setRow (w.heap.size + 1) #[.int .u64 q1, .int .u64 q2]) (w.heap.size) 24 #[.int .u64 p1, .int .u64 p2] := Sn.bk_row_other (Sn.bk_row HR0.out _) (by omega) _
        have hr1 : Sn.Bk ((v2.setRow (w.heap.size) #[.int .u64 p1, .int .u64 p2]).setRow (w.heap.size + 1) #[.int .u64 q1, .int .u64 q2]) (w.heap.size + 1) 24 #[.int .u64 q1, .int .u64 q2] := Sn.bk_row (Sn.bk_row_other HR1.out (by omega) _) _
        have hr2 : Sn.Bk ((v2.setRow (w.heap.size) #[.int .u64 p1, .int .u64 p2]).setRow (w.heap.size + 1) #[.int .u64 q1, .int .u64 q2]) (w.heap.size + 1 + 1) 24 #[.int .u64 0, .int .u64 0] := Sn.bk_row_other (Sn.bk_row_other HR2.out (by omega) _) (by omega) _
        clear HB HR0 HR1 HR2 H1C H2C
        generalize ((v2.setRow (w.heap.size) #[.int .u64 p1, .int .u64 p2]).setRow (w.heap.size + 1) #[.int .u64 q1, .int .u64 q2]) = v3 at *
        have HB := Lib.hid hB
        have HR0 := Lib.hid hr0
        have HR1 := Lib.hid hr1
        have HR2 := Lib.hid hr2
        clear hB hr0 hr1 hr2 HX HY v v2
        have c0_0 := Sn.bk_c HR0.out 0
        have c0_1 := Sn.bk_c HR0.out 1
        have c1_0 := Sn.bk_c HR1.out 0
        have c1_1 := Sn.bk_c HR1.out 1
        simp only [List.getElem?_toArray, List.getElem?_cons_zero, List.getElem?_cons_succ] at c0_0 c0_1 c1_0 c1_1
        go_wp2_with (with_reducible refine Sn.store_sp (.tmp 6) (.tmp 31) (w.heap.size + 1 + 1) #[.int .u64 0, .int .u64 0] #[.int .u64 0, .int .u64 0] (Sn.bk_old HR2.out _) rfl rfl rfl rfl rfl rfl (by simp [Value.oneCell']) ?_)
        exact Sn.ret_sp2 (w.heap.size + 1 + 1) #[.int .u64 0, .int .u64 0] _ (Sn.bk_row (Sn.bk_old HR2.out _) _) rfl rfl rfl rfl rfl ⟨rfl, Sn.below_set (HB.out.alloc HB.out.size _) (by omega) _⟩
      · rw [if_neg hc]
        have hd : decide (p1 > q2) = false := by simpa using hc
        clear hc
        go_enter Try.func15, Try.ntmps15
        go_upto_region 1 with (fail)
        have hB : Below w.heap.size w (((w.alloc (.cells #[.int .u64 x1, .int .u64 x2] 24)).alloc (.cells #[.int .u64 y1, .int .u64 y2] 24)).alloc (.cells #[.int .u64 0, .int .u64 0] 24)) := ((((Below.refl _ _).alloc (Nat.le_refl _) _).alloc (by simp) _).alloc (by simp; omega) _)
        have hr0 : Sn.Bk (((w.alloc (.cells #[.int .u64 x1, .int .u64 x2] 24)).alloc (.cells #[.int .u64 y1, .int .u64 y2] 24)).alloc (.cells #[.int .u64 0, .int .u64 0] 24)) (w.heap.size) 24 #[.int .u64 x1, .int .u64 x2] := Sn.bk_old (Sn.bk_old (Sn.bk_new _ _ _) _) _
        have hr1 : Sn.Bk (((w.alloc (.cells #[.int .u64 x1, .int .u64 x2] 24)).alloc (.cells #[.int .u64 y1, .int .u64 y2] 24)).alloc (.cells #[.int .u64 0, .int .u64 0] 24)) (w.heap.size + 1) 24 #[.int .u64 y1, .int .u64 y2] := Sn.bk_old (Sn.bk_at (by simp)) _
        have hr2 : Sn.Bk (((w.alloc (.cells #[.int .u64 x1, .int .u64 x2] 24)).alloc (.cells #[.int .u64 y1, .int .u64 y2] 24)).alloc (.cells #[.int .u64 0, .int .u64 0] 24)) (w.heap.size + 1 + 1) 24 #[.int .u64 0, .int .u64 0] := Sn.bk_at (by simp)
        generalize (((w.alloc (.cells #[.int .u64 x1, .int .u64 x2] 24)).alloc (.cells #[.int .u64 y1, .int .u64 y2] 24)).alloc (.cells #[.int .u64 0, .int .u64 0] 24)) = v at *
        have HB := Lib.hid hB
        have HR0 := Lib.hid hr0
        have HR1 := Lib.hid hr1
        have HR2 := Lib.hid hr2
        clear hB hr0 hr1 hr2
        refine qc_tail (fun W => Below v.heap.size v W) 6 (by kernel_rfl) (by kernel_rfl) (Below.refl _ _).drew ?_
        simp only [List.take_succ_cons, List.take_zero, List.drop_succ_cons, List.drop_zero]
        refine qc_take (.int .i64 a) (by rfl) (fun W hW => ?_) ?_
        · (try dsimp only at hW)
          go_simp
        try simp only [List.getElem_toArray, List.getElem_cons_succ, List.getElem_cons_zero, Act.put, List.setIfInBounds_toArray, List.set_cons_zero, List.set_cons_succ]
        refine qc_take (.agg #[.int .u64 x1, .int .u64 x2]) (by rfl) (fun W hW => ?_) ?_
        · (try dsimp only at hW)
          have y := Sn.bk_below HR0.out hW (Sn.bk_lt HR0.out)
          have y0 := Sn.bk_c y 0
          have y1 := Sn.bk_c y 1
          simp only [List.getElem?_toArray, List.getElem?_cons_zero, List.getElem?_cons_succ] at y0 y1
          go_simp
        try simp only [List.getElem_toArray, List.getElem_cons_succ, List.getElem_cons_zero, Act.put, List.setIfInBounds_toArray, List.set_cons_zero, List.set_cons_succ]
        refine qc_take (.agg #[.int .u64 p1, .int .u64 p2]) (by rfl) (fun W hW => ?_) ?_
        · (try dsimp only at hW)
          go_simp
          exact (HX.out W).mono fun e w9 h9 => ⟨h9.1, Sn.below_next hW h9.2 hW.size⟩
        try simp only [List.getElem_toArray, List.getElem_cons_succ, List.getElem_cons_zero, Act.put, List.setIfInBounds_toArray, List.set_cons_zero, List.set_cons_succ]
        refine qc_take (.int .i64 a) (by rfl) (fun W hW => ?_) ?_
        · (try dsimp only at hW)
          go_simp
        try simp only [List.getElem_toArray, List.getElem_cons_succ, List.getElem_cons_zero, Act.put, List.setIfInBounds_toArray, List.set_cons_zero, List.set_cons_succ]
        refine qc_take (.agg #[.int .u64 y1, .int .u64 y2]) (by rfl) (fun W hW => ?_) ?_
        · (try dsimp only at hW)
          have y := Sn.bk_below HR1.out hW (Sn.bk_lt HR1.out)
          have y0 := Sn.bk_c y 0
          have y1 := Sn.bk_c y 1
          simp only [List.getElem?_toArray, List.getElem?_cons_zero, List.getElem?_cons_succ] at y0 y1
          go_simp
        try simp only [List.getElem_toArray, List.getElem_cons_succ, List.getElem_cons_zero, Act.put, List.setIfInBounds_toArray, List.set_cons_zero, List.set_cons_succ]
        refine qc_take (.agg #[.int .u64 q1, .int .u64 q2]) (by rfl) (fun W hW => ?_) ?_
        · (try dsimp only at hW)
          go_simp
          exact (HY.out W).mono fun e w9 h9 => ⟨h9.1, Sn.below_next hW h9.2 hW.size⟩
        try simp only [List.getElem_toArray, List.getElem_cons_succ, List.getElem_cons_zero, Act.put, List.setIfInBounds_toArray, List.set_cons_zero, List.set_cons_succ]
        refine wpQuiet_nil ?_
        intro v2 hb
        have hr0 := Sn.bk_below HR0.out hb (Sn.bk_lt HR0.out)
        have hr1 := Sn.bk_below HR1.out hb (Sn.bk_lt HR1.out)
        have hr2 := Sn.bk_below HR2.out hb (Sn.bk_lt HR2.out)
        have hB := Sn.below_next HB.out hb HB.out.size
        clear HB HR0 HR1 HR2 hb
        have HB := Lib.hid hB
        have HR0 := Lib.hid hr0
        have HR1 := Lib.hid hr1
        have HR2 := Lib.hid hr2
        clear hB hr0 hr1 hr2
        have H1C := Lib.hid (show (#[.int .u64 p1, .int .u64 p2] : Array Value).all (·.oneCell') = true by simp [Value.oneCell'])
        have H2C := Lib.hid (show (#[.int .u64 q1, .int .u64 q2] : Array Value).all (·.oneCell') = true by simp [Value.oneCell'])
        refine Sn.store_sp (.tmp 4) (.tmp 11) (w.heap.size) #[.int .u64 x1, .int .u64 x2] #[.int .u64 p1, .int .u64 p2] HR0.out rfl rfl rfl rfl rfl rfl H1C.out ?_
        refine Sn.store_sp (.tmp 5) (.tmp 14) (w.heap.size + 1) #[.int .u64 y1, .int .u64 y2] #[.int .u64 q1, .int .u64 q2] (Sn.bk_row_other HR1.out (by omega) _) rfl rfl rfl rfl rfl rfl H2C.out ?_
        have hB : Below w.heap.size w ((v2.setRow (w.heap.size) #[.int .u64 p1, .int .u64 p2]).setRow (w.heap.size + 1) #[.int .u64 q1, .int .u64 q2]) := Sn.below_set (Sn.below_set HB.out (by omega) _) (by omega) _
        have hr0 : Sn.Bk ((v2.setRow (w.heap.size) #[.int .u64 p1, .int .u64 p2]).setRow (w.heap.size + 1) #[.int .u64 q1, .int .u64 q2]) (w.heap.size) 24 #[.int .u64 p1, .int .u64 p2] := Sn.bk_row_other (Sn.bk_row HR0.out _) (by omega) _
        have hr1 : Sn.Bk ((v2.setRow (w.heap.size) #[.int .u64 p1, .int .u64 p2]).setRow (w.heap.size + 1) #[.int .u64 q1, .int .u64 q2]) (w.heap.size + 1) 24 #[.int .u64 q1, .int .u64 q2] := Sn.bk_row (Sn.bk_row_other HR1.out (by omega) _) _
        have hr2 : Sn.Bk ((v2.setRow (w.heap.size) #[.int .u64 p1, .int .u64 p2]).setRow (w.heap.size + 1) #[.int .u64 q1, .int .u64 q2]) (w.heap.size + 1 + 1) 24 #[.int .u64 0, .int .u64 0] := Sn.bk_row_other (Sn.bk_row_other HR2.out (by omega) _) (by omega) _
        clear HB HR0 HR1 HR2 H1C H2C
        generalize ((v2.setRow (w.heap.size) #[.int .u64 p1, .int .u64 p2]).setRow (w.heap.size + 1) #[.int .u64 q1, .int .u64 q2]) = v3 at *
        have HB := Lib.hid hB
        have HR0 := Lib.hid hr0
        have HR1 := Lib.hid hr1
        have HR2 := Lib.hid hr2
        clear hB hr0 hr1 hr2 HX HY v v2
        have c0_0 := Sn.bk_c HR0.out 0
        have c0_1 := Sn.bk_c HR0.out 1
        have c1_0 := Sn.bk_c HR1.out 0
        have c1_1 := Sn.bk_c HR1.out 1
        simp only [List.getElem?_toArray, List.getElem?_cons_zero, List.getElem?_cons_succ] at c0_0 c0_1 c1_0 c1_1
        go_wp2_with (with_reducible refine Sn.store_sp (.tmp 6) (.tmp 32) (w.heap.size + 1 + 1) #[.int .u64 0, .int .u64 0] #[.int .u64 p1, .int .u64 q2] (Sn.bk_old HR2.out _) rfl rfl rfl rfl rfl rfl (by simp [Value.oneCell']) ?_)
        exact Sn.ret_sp2 (w.heap.size + 1 + 1) #[.int .u64 p1, .int .u64 q2] _ (Sn.bk_row (Sn.bk_old HR2.out _) _) rfl rfl rfl rfl rfl ⟨rfl, Sn.below_set (HB.out.alloc HB.out.size _) (by omega) _⟩
    · rw [show min p2 q2 = p2 by omega]
      by_cases hc : p2 < p1
      · rw [if_pos hc]
        have hd : decide (p1 > p2) = true := by simpa using hc
        clear hc
        go_enter Try.func15, Try.ntmps15
        go_upto_region 1 with (fail)
        have hB : Below w.heap.size w (((w.alloc (.cells #[.int .u64 x1, .int .u64 x2] 24)).alloc (.cells #[.int .u64 y1, .int .u64 y2] 24)).alloc (.cells #[.int .u64 0, .int .u64 0] 24)) := ((((Below.refl _ _).alloc (Nat.le_refl _) _).alloc (by simp) _).alloc (by simp; omega) _)
        have hr0 : Sn.Bk (((w.alloc (.cells #[.int .u64 x1, .int .u64 x2] 24)).alloc (.cells #[.int .u64 y1, .int .u64 y2] 24)).alloc (.cells #[.int .u64 0, .int .u64 0] 24)) (w.heap.size) 24 #[.int .u64 x1, .int .u64 x2] := Sn.bk_old (Sn.bk_old (Sn.bk_new _ _ _) _) _
        have hr1 : Sn.Bk (((w.alloc (.cells #[.int .u64 x1, .int .u64 x2] 24)).alloc (.cells #[.int .u64 y1, .int .u64 y2] 24)).alloc (.cells #[.int .u64 0, .int .u64 0] 24)) (w.heap.size + 1) 24 #[.int .u64 y1, .int .u64 y2] := Sn.bk_old (Sn.bk_at (by simp)) _
        have hr2 : Sn.Bk (((w.alloc (.cells #[.int .u64 x1, .int .u64 x2] 24)).alloc (.cells #[.int .u64 y1, .int .u64 y2] 24)).alloc (.cells #[.int .u64 0, .int .u64 0] 24)) (w.heap.size + 1 + 1) 24 #[.int .u64 0, .int .u64 0] := Sn.bk_at (by simp)
        generalize (((w.alloc (.cells #[.int .u64 x1, .int .u64 x2] 24)).alloc (.cells #[.int .u64 y1, .int .u64 y2] 24)).alloc (.cells #[.int .u64 0, .int .u64 0] 24)) = v at *
        have HB := Lib.hid hB
        have HR0 := Lib.hid hr0
        have HR1 := Lib.hid hr1
        have HR2 := Lib.hid hr2
        clear hB hr0 hr1 hr2
        refine qc_tail (fun W => Below v.heap.size v W) 6 (by kernel_rfl) (by kernel_rfl) (Below.refl _ _).drew ?_
        simp only [List.take_succ_cons, List.take_zero, List.drop_succ_cons, List.drop_zero]
        refine qc_take (.int .i64 a) (by rfl) (fun W hW => ?_) ?_
        · (try dsimp only at hW)
          go_simp
        try simp only [List.getElem_toArray, List.getElem_cons_succ, List.getElem_cons_zero, Act.put, List.setIfInBounds_toArray, List.set_cons_zero, List.set_cons_succ]
        refine qc_take (.agg #[.int .u64 x1, .int .u64 x2]) (by rfl) (fun W hW => ?_) ?_
        · (try dsimp only at hW)
          have y := Sn.bk_below HR0.out hW (Sn.bk_lt HR0.out)
          have y0 := Sn.bk_c y 0
          have y1 := Sn.bk_c y 1
          simp only [List.getElem?_toArray, List.getElem?_cons_zero, List.getElem?_cons_succ] at y0 y1
          go_simp
        try simp only [List.getElem_toArray, List.getElem_cons_succ, List.getElem_cons_zero, Act.put, List.setIfInBounds_toArray, List.set_cons_zero, List.set_cons_succ]
        refine qc_take (.agg #[.int .u64 p1, .int .u64 p2]) (by rfl) (fun W hW => ?_) ?_
        · (try dsimp only at hW)
          go_simp
          exact (HX.out W).mono fun e w9 h9 => ⟨h9.1, Sn.below_next hW h9.2 hW.size⟩
        try simp only [List.getElem_toArray, List.getElem_cons_succ, List.getElem_cons_zero, Act.put, List.setIfInBounds_toArray, List.set_cons_zero, List.set_cons_succ]
        refine qc_take (.int .i64 a) (by rfl) (fun W hW => ?_) ?_
        · (try dsimp only at hW)
          go_simp
        try simp only [List.getElem_toArray, List.getElem_cons_succ, List.getElem_cons_zero, Act.put, List.setIfInBounds_toArray, List.set_cons_zero, List.set_cons_succ]
        refine qc_take (.agg #[.int .u64 y1, .int .u64 y2]) (by rfl) (fun W hW => ?_) ?_
        · (try dsimp only at hW)
          have y := Sn.bk_below HR1.out hW (Sn.bk_lt HR1.out)
          have y0 := Sn.bk_c y 0
          have y1 := Sn.bk_c y 1
          simp only [List.getElem?_toArray, List.getElem?_cons_zero, List.getElem?_cons_succ] at y0 y1
          go_simp
        try simp only [List.getElem_toArray, List.getElem_cons_succ, List.getElem_cons_zero, Act.put, List.setIfInBounds_toArray, List.set_cons_zero, List.set_cons_succ]
        refine qc_take (.agg #[.int .u64 q1, .int .u64 q2]) (by rfl) (fun W hW => ?_) ?_
        · (try dsimp only at hW)
          go_simp
          exact (HY.out W).mono fun e w9 h9 => ⟨h9.1, Sn.below_next hW h9.2 hW.size⟩
        try simp only [List.getElem_toArray, List.getElem_cons_succ, List.getElem_cons_zero, Act.put, List.setIfInBounds_toArray, List.set_cons_zero, List.set_cons_succ]
        refine wpQuiet_nil ?_
        intro v2 hb
        have hr0 := Sn.bk_below HR0.out hb (Sn.bk_lt HR0.out)
        have hr1 := Sn.bk_below HR1.out hb (Sn.bk_lt HR1.out)
        have hr2 := Sn.bk_below HR2.out hb (Sn.bk_lt HR2.out)
        have hB := Sn.below_next HB.out hb HB.out.size
        clear HB HR0 HR1 HR2 hb
        have HB := Lib.hid hB
        have HR0 := Lib.hid hr0
        have HR1 := Lib.hid hr1
        have HR2 := Lib.hid hr2
        clear hB hr0 hr1 hr2
        have H1C := Lib.hid (show (#[.int .u64 p1, .int .u64 p2] : Array Value).all (·.oneCell') = true by simp [Value.oneCell'])
        have H2C := Lib.hid (show (#[.int .u64 q1, .int .u64 q2] : Array Value).all (·.oneCell') = true by simp [Value.oneCell'])
        refine Sn.store_sp (.tmp 4) (.tmp 11) (w.heap.size) #[.int .u64 x1, .int .u64 x2] #[.int .u64 p1, .int .u64 p2] HR0.out rfl rfl rfl rfl rfl rfl H1C.out ?_
        refine Sn.store_sp (.tmp 5) (.tmp 14) (w.heap.size + 1) #[.int .u64 y1, .int .u64 y2] #[.int .u64 q1, .int .u64 q2] (Sn.bk_row_other HR1.out (by omega) _) rfl rfl rfl rfl rfl rfl H2C.out ?_
        have hB : Below w.heap.size w ((v2.setRow (w.heap.size) #[.int .u64 p1, .int .u64 p2]).setRow (w.heap.size + 1) #[.int .u64 q1, .int .u64 q2]) := Sn.below_set (Sn.below_set HB.out (by omega) _) (by omega) _
        have hr0 : Sn.Bk ((v2.setRow (w.heap.size) #[.int .u64 p1, .int .u64 p2]).setRow (w.heap.size + 1) #[.int .u64 q1, .int .u64 q2]) (w.heap.size) 24 #[.int .u64 p1, .int .u64 p2] := Sn.bk_row_other (Sn.bk_row HR0.out _) (by omega) _
        have hr1 : Sn.Bk ((v2.setRow (w.heap.size) #[.int .u64 p1, .int .u64 p2]).setRow (w.heap.size + 1) #[.int .u64 q1, .int .u64 q2]) (w.heap.size + 1) 24 #[.int .u64 q1, .int .u64 q2] := Sn.bk_row (Sn.bk_row_other HR1.out (by omega) _) _
        have hr2 : Sn.Bk ((v2.setRow (w.heap.size) #[.int .u64 p1, .int .u64 p2]).setRow (w.heap.size + 1) #[.int .u64 q1, .int .u64 q2]) (w.heap.size + 1 + 1) 24 #[.int .u64 0, .int .u64 0] := Sn.bk_row_other (Sn.bk_row_other HR2.out (by omega) _) (by omega) _
        clear HB HR0 HR1 HR2 H1C H2C
        generalize ((v2.setRow (w.heap.size) #[.int .u64 p1, .int .u64 p2]).setRow (w.heap.size + 1) #[.int .u64 q1, .int .u64 q2]) = v3 at *
        have HB := Lib.hid hB
        have HR0 := Lib.hid hr0
        have HR1 := Lib.hid hr1
        have HR2 := Lib.hid hr2
        clear hB hr0 hr1 hr2 HX HY v v2
        have c0_0 := Sn.bk_c HR0.out 0
        have c0_1 := Sn.bk_c HR0.out 1
        have c1_0 := Sn.bk_c HR1.out 0
        have c1_1 := Sn.bk_c HR1.out 1
        simp only [List.getElem?_toArray, List.getElem?_cons_zero, List.getElem?_cons_succ] at c0_0 c0_1 c1_0 c1_1
        go_wp2_with (with_reducible refine Sn.store_sp (.tmp 6) (.tmp 31) (w.heap.size + 1 + 1) #[.int .u64 0, .int .u64 0] #[.int .u64 0, .int .u64 0] (Sn.bk_old HR2.out _) rfl rfl rfl rfl rfl rfl (by simp [Value.oneCell']) ?_)
        exact Sn.ret_sp2 (w.heap.size + 1 + 1) #[.int .u64 0, .int .u64 0] _ (Sn.bk_row (Sn.bk_old HR2.out _) _) rfl rfl rfl rfl rfl ⟨rfl, Sn.below_set (HB.out.alloc HB.out.size _) (by omega) _⟩
      · rw [if_neg hc]
        have hd : decide (p1 > p2) = false := by simpa using hc
        clear hc
        go_enter Try.func15, Try.ntmps15
        go_upto_region 1 with (fail)
        have hB : Below w.heap.size w (((w.alloc (.cells #[.int .u64 x1, .int .u64 x2] 24)).alloc (.cells #[.int .u64 y1, .int .u64 y2] 24)).alloc (.cells #[.int .u64 0, .int .u64 0] 24)) := ((((Below.refl _ _).alloc (Nat.le_refl _) _).alloc (by simp) _).alloc (by simp; omega) _)
        have hr0 : Sn.Bk (((w.alloc (.cells #[.int .u64 x1, .int .u64 x2] 24)).alloc (.cells #[.int .u64 y1, .int .u64 y2] 24)).alloc (.cells #[.int .u64 0, .int .u64 0] 24)) (w.heap.size) 24 #[.int .u64 x1, .int .u64 x2] := Sn.bk_old (Sn.bk_old (Sn.bk_new _ _ _) _) _
        have hr1 : Sn.Bk (((w.alloc (.cells #[.int .u64 x1, .int .u64 x2] 24)).alloc (.cells #[.int .u64 y1, .int .u64 y2] 24)).alloc (.cells #[.int .u64 0, .int .u64 0] 24)) (w.heap.size + 1) 24 #[.int .u64 y1, .int .u64 y2] := Sn.bk_old (Sn.bk_at (by simp)) _
        have hr2 : Sn.Bk (((w.alloc (.cells #[.int .u64 x1, .int .u64 x2] 24)).alloc (.cells #[.int .u64 y1, .int .u64 y2] 24)).alloc (.cells #[.int .u64 0, .int .u64 0] 24)) (w.heap.size + 1 + 1) 24 #[.int .u64 0, .int .u64 0] := Sn.bk_at (by simp)
        generalize (((w.alloc (.cells #[.int .u64 x1, .int .u64 x2] 24)).alloc (.cells #[.int .u64 y1, .int .u64 y2] 24)).alloc (.cells #[.int .u64 0, .int .u64 0] 24)) = v at *
        have HB := Lib.hid hB
        have HR0 := Lib.hid hr0
        have HR1 := Lib.hid hr1
        have HR2 := Lib.hid hr2
        clear hB hr0 hr1 hr2
        refine qc_tail (fun W => Below v.heap.size v W) 6 (by kernel_rfl) (by kernel_rfl) (Below.refl _ _).drew ?_
        simp only [List.take_succ_cons, List.take_zero, List.drop_succ_cons, List.drop_zero]
        refine qc_take (.int .i64 a) (by rfl) (fun W hW => ?_) ?_
        · (try dsimp only at hW)
          go_simp
        try simp only [List.getElem_toArray, List.getElem_cons_succ, List.getElem_cons_zero, Act.put, List.setIfInBounds_toArray, List.set_cons_zero, List.set_cons_succ]
        refine qc_take (.agg #[.int .u64 x1, .int .u64 x2]) (by rfl) (fun W hW => ?_) ?_
        · (try dsimp only at hW)
          have y := Sn.bk_below HR0.out hW (Sn.bk_lt HR0.out)
          have y0 := Sn.bk_c y 0
          have y1 := Sn.bk_c y 1
          simp only [List.getElem?_toArray, List.getElem?_cons_zero, List.getElem?_cons_succ] at y0 y1
          go_simp
        try simp only [List.getElem_toArray, List.getElem_cons_succ, List.getElem_cons_zero, Act.put, List.setIfInBounds_toArray, List.set_cons_zero, List.set_cons_succ]
        refine qc_take (.agg #[.int .u64 p1, .int .u64 p2]) (by rfl) (fun W hW => ?_) ?_
        · (try dsimp only at hW)
          go_simp
          exact (HX.out W).mono fun e w9 h9 => ⟨h9.1, Sn.below_next hW h9.2 hW.size⟩
        try simp only [List.getElem_toArray, List.getElem_cons_succ, List.getElem_cons_zero, Act.put, List.setIfInBounds_toArray, List.set_cons_zero, List.set_cons_succ]
        refine qc_take (.int .i64 a) (by rfl) (fun W hW => ?_) ?_
        · (try dsimp only at hW)
          go_simp
        try simp only [List.getElem_toArray, List.getElem_cons_succ, List.getElem_cons_zero, Act.put, List.setIfInBounds_toArray, List.set_cons_zero, List.set_cons_succ]
        refine qc_take (.agg #[.int .u64 y1, .int .u64 y2]) (by rfl) (fun W hW => ?_) ?_
        · (try dsimp only at hW)
          have y := Sn.bk_below HR1.out hW (Sn.bk_lt HR1.out)
          have y0 := Sn.bk_c y 0
          have y1 := Sn.bk_c y 1
          simp only [List.getElem?_toArray, List.getElem?_cons_zero, List.getElem?_cons_succ] at y0 y1
          go_simp
        try simp only [List.getElem_toArray, List.getElem_cons_succ, List.getElem_cons_zero, Act.put, List.setIfInBounds_toArray, List.set_cons_zero, List.set_cons_succ]
        refine qc_take (.agg #[.int .u64 q1, .int .u64 q2]) (by rfl) (fun W hW => ?_) ?_
        · (try dsimp only at hW)
          go_simp
          exact (HY.out W).mono fun e w9 h9 => ⟨h9.1, Sn.below_next hW h9.2 hW.size⟩
        try simp only [List.getElem_toArray, List.getElem_cons_succ, List.getElem_cons_zero, Act.put, List.setIfInBounds_toArray, List.set_cons_zero, List.set_cons_succ]
        refine wpQuiet_nil ?_
        intro v2 hb
        have hr0 := Sn.bk_below HR0.out hb (Sn.bk_lt HR0.out)
        have hr1 := Sn.bk_below HR1.out hb (Sn.bk_lt HR1.out)
        have hr2 := Sn.bk_below HR2.out hb (Sn.bk_lt HR2.out)
        have hB := Sn.below_next HB.out hb HB.out.size
        clear HB HR0 HR1 HR2 hb
        have HB := Lib.hid hB
        have HR0 := Lib.hid hr0
        have HR1 := Lib.hid hr1
        have HR2 := Lib.hid hr2
        clear hB hr0 hr1 hr2
        have H1C := Lib.hid (show (#[.int .u64 p1, .int .u64 p2] : Array Value).all (·.oneCell') = true by simp [Value.oneCell'])
        have H2C := Lib.hid (show (#[.int .u64 q1, .int .u64 q2] : Array Value).all (·.oneCell') = true by simp [Value.oneCell'])
        refine Sn.store_sp (.tmp 4) (.tmp 11) (w.heap.size) #[.int .u64 x1, .int .u64 x2] #[.int .u64 p1, .int .u64 p2] HR0.out rfl rfl rfl rfl rfl rfl H1C.out ?_
        refine Sn.store_sp (.tmp 5) (.tmp 14) (w.heap.size + 1) #[.int .u64 y1, .int .u64 y2] #[.int .u64 q1, .int .u64 q2] (Sn.bk_row_other HR1.out (by omega) _) rfl rfl rfl rfl rfl rfl H2C.out ?_
        have hB : Below w.heap.size w ((v2.setRow (w.heap.size) #[.int .u64 p1, .int .u64 p2]).setRow (w.heap.size + 1) #[.int .u64 q1, .int .u64 q2]) := Sn.below_set (Sn.below_set HB.out (by omega) _) (by omega) _
        have hr0 : Sn.Bk ((v2.setRow (w.heap.size) #[.int .u64 p1, .int .u64 p2]).setRow (w.heap.size + 1) #[.int .u64 q1, .int .u64 q2]) (w.heap.size) 24 #[.int .u64 p1, .int .u64 p2] := Sn.bk_row_other (Sn.bk_row HR0.out _) (by omega) _
        have hr1 : Sn.Bk ((v2.setRow (w.heap.size) #[.int .u64 p1, .int .u64 p2]).setRow (w.heap.size + 1) #[.int .u64 q1, .int .u64 q2]) (w.heap.size + 1) 24 #[.int .u64 q1, .int .u64 q2] := Sn.bk_row (Sn.bk_row_other HR1.out (by omega) _) _
        have hr2 : Sn.Bk ((v2.setRow (w.heap.size) #[.int .u64 p1, .int .u64 p2]).setRow (w.heap.size + 1) #[.int .u64 q1, .int .u64 q2]) (w.heap.size + 1 + 1) 24 #[.int .u64 0, .int .u64 0] := Sn.bk_row_other (Sn.bk_row_other HR2.out (by omega) _) (by omega) _
        clear HB HR0 HR1 HR2 H1C H2C
        generalize ((v2.setRow (w.heap.size) #[.int .u64 p1, .int .u64 p2]).setRow (w.heap.size + 1) #[.int .u64 q1, .int .u64 q2]) = v3 at *
        have HB := Lib.hid hB
        have HR0 := Lib.hid hr0
        have HR1 := Lib.hid hr1
        have HR2 := Lib.hid hr2
        clear hB hr0 hr1 hr2 HX HY v v2
        have c0_0 := Sn.bk_c HR0.out 0
        have c0_1 := Sn.bk_c HR0.out 1
        have c1_0 := Sn.bk_c HR1.out 0
        have c1_1 := Sn.bk_c HR1.out 1
        simp only [List.getElem?_toArray, List.getElem?_cons_zero, List.getElem?_cons_succ] at c0_0 c0_1 c1_0 c1_1
        go_wp2_with (with_reducible refine Sn.store_sp (.tmp 6) (.tmp 32) (w.heap.size + 1 + 1) #[.int .u64 0, .int .u64 0] #[.int .u64 p1, .int .u64 p2] (Sn.bk_old HR2.out _) rfl rfl rfl rfl rfl rfl (by simp [Value.oneCell']) ?_)
        exact Sn.ret_sp2 (w.heap.size + 1 + 1) #[.int .u64 p1, .int .u64 p2] _ (Sn.bk_row (Sn.bk_old HR2.out _) _) rfl rfl rfl rfl rfl ⟨rfl, Sn.below_set (HB.out.alloc HB.out.size _) (by omega) _⟩


end Go.Proofs.Ytbjckcjfambpoaa
