/-
  Layer 11: the rules of the moves.
-/
import Derived.Test.YtbjckcjfambpoaaSnWa
namespace Go.Proofs.Ytbjckcjfambpoaa
set_option linter.unusedSimpArgs false
set_option linter.unusedVariables false
open Go.RowKit Go.Maps
set_option maxRecDepth 100000

set_option maxHeartbeats 12800000 in
theorem shift_any (op a : Int) (x y : Sn.S) (hop : op = 16 ∨ op = 17 ∨ op = 18) (hx : Sn.Ok a x) (hy : Sn.Ok a y) (w : World) :
    Calls Try.prog 28 #[.int .i64 op, .int .i64 a, Sn.v x, Sn.v y] w fun e w' => ∃ r, e = .returned r ∧ Sn.For w' r a x y (Sn.tab op a x y) ∧ Below w.heap.size w w' := by
  obtain ⟨x1, x2⟩ := x
  obtain ⟨y1, y2⟩ := y
  have hm := Wd.msk_hi a
  have hx2 := hx
  have hy2 := hy
  unfold Sn.Ok at hx2 hy2
  dsimp only at hx2 hy2
  have hw := Wd.wid_hi a
  rcases hop with h | h | h
  · subst h
    by_cases g1 : y2 < Wd.wid a
    · by_cases g2 : x2 ≤ Wd.msk a / Wd.pw (Wd.sh y2)
      · rw [Sn.shl_yes hx hy g1 g2]
        show Calls Try.prog 28 #[.int .i64 16, .int .i64 a, .agg #[.int .u64 x1, .int .u64 x2], .agg #[.int .u64 y1, .int .u64 y2]] w _
        go_enter Try.func28, Try.ntmps28
        go_upto_region 1 with (fail)
        have hB : Below w.heap.size w (((w.alloc (.cells #[.int .u64 x1, .int .u64 x2] 24)).alloc (.cells #[.int .u64 y1, .int .u64 y2] 24)).alloc (.cells Sn.Z4 43)) := ((((Below.refl _ _).alloc (Nat.le_refl _) _).alloc (by simp) _).alloc (by simp; omega) _)
        have hr0 : Sn.Bk (((w.alloc (.cells #[.int .u64 x1, .int .u64 x2] 24)).alloc (.cells #[.int .u64 y1, .int .u64 y2] 24)).alloc (.cells Sn.Z4 43)) (w.heap.size) 24 #[.int .u64 x1, .int .u64 x2] := Sn.bk_old (Sn.bk_old (Sn.bk_new _ _ _) _) _
        have hr1 : Sn.Bk (((w.alloc (.cells #[.int .u64 x1, .int .u64 x2] 24)).alloc (.cells #[.int .u64 y1, .int .u64 y2] 24)).alloc (.cells Sn.Z4 43)) (w.heap.size + 1) 24 #[.int .u64 y1, .int .u64 y2] := Sn.bk_old (Sn.bk_at (by simp)) _
        have hr2 : Sn.Bk (((w.alloc (.cells #[.int .u64 x1, .int .u64 x2] 24)).alloc (.cells #[.int .u64 y1, .int .u64 y2] 24)).alloc (.cells Sn.Z4 43)) (w.heap.size + 1 + 1) 43 Sn.Z4 := Sn.bk_at (by simp)
        generalize (((w.alloc (.cells #[.int .u64 x1, .int .u64 x2] 24)).alloc (.cells #[.int .u64 y1, .int .u64 y2] 24)).alloc (.cells Sn.Z4 43)) = v at *
        have HB := Lib.hid hB
        have HR0 := Lib.hid hr0
        have HR1 := Lib.hid hr1
        have HR2 := Lib.hid hr2
        clear hB hr0 hr1 hr2
        go_upto_region 5 with (go_at_call 21; refine (mask_any _ _).mono ?_; rintro e w' ⟨rfl, rfl⟩)
        rename World => v
        refine qc_all (fun W => Below v.heap.size v W) (by kernel_rfl) (by kernel_rfl) (Below.refl _ _).drew ?_
        refine qc_take (.pointer (some ⟨w.heap.size + 1, 1, none⟩)) (by rfl) (fun W hW => ?_) ?_
        · (try dsimp only at hW)
          go_simp
        try simp only [List.getElem_toArray, List.getElem_cons_succ, List.getElem_cons_zero, Act.put, List.setIfInBounds_toArray, List.set_cons_zero, List.set_cons_succ]
        refine qc_take (.int .u64 y2) (by rfl) (fun W hW => ?_) ?_
        · (try dsimp only at hW)
          have y := Sn.bk_below HR1.out hW (Sn.bk_lt HR1.out)
          have y0 := Sn.bk_c y 0
          have y1 := Sn.bk_c y 1
          simp only [List.getElem?_toArray, List.getElem?_cons_zero, List.getElem?_cons_succ] at y0 y1
          go_simp
        try simp only [List.getElem_toArray, List.getElem_cons_succ, List.getElem_cons_zero, Act.put, List.setIfInBounds_toArray, List.set_cons_zero, List.set_cons_succ]
        refine qc_take (.int .u64 (Wd.msk a)) (by rfl) (fun W hW => ?_) ?_
        · (try dsimp only at hW)
          go_simp
        try simp only [List.getElem_toArray, List.getElem_cons_succ, List.getElem_cons_zero, Act.put, List.setIfInBounds_toArray, List.set_cons_zero, List.set_cons_succ]
        refine qc_take (.int .i64 (Wd.wid a)) (by rfl) (fun W hW => ?_) ?_
        · (try dsimp only at hW)
          go_simp
          have hh := Sn.len_any (Wd.msk a) W (by omega) (by omega)
          rw [Sn.wid_len] at hh
          exact hh.mono fun e w9 h9 => ⟨h9.1, h9.2 ▸ hW⟩
        try simp only [List.getElem_toArray, List.getElem_cons_succ, List.getElem_cons_zero, Act.put, List.setIfInBounds_toArray, List.set_cons_zero, List.set_cons_succ]
        refine qc_take (.int .u64 (Wd.wid a)) (by rfl) (fun W hW => ?_) ?_
        · (try dsimp only at hW)
          go_simp
          rw [IntKind.wrap_u64]; omega
        try simp only [List.getElem_toArray, List.getElem_cons_succ, List.getElem_cons_zero, Act.put, List.setIfInBounds_toArray, List.set_cons_zero, List.set_cons_succ]
        refine qc_take (.bool true) (by rfl) (fun W hW => ?_) ?_
        · (try dsimp only at hW)
          go_simp
        try simp only [List.getElem_toArray, List.getElem_cons_succ, List.getElem_cons_zero, Act.put, List.setIfInBounds_toArray, List.set_cons_zero, List.set_cons_succ]
        refine qc_take (.bool true) (by rfl) (fun W hW => ?_) ?_
        · (try dsimp only at hW)
          go_simp
        try simp only [List.getElem_toArray, List.getElem_cons_succ, List.getElem_cons_zero, Act.put, List.setIfInBounds_toArray, List.set_cons_zero, List.set_cons_succ]
        refine qc_take (.pointer (some ⟨w.heap.size, 1, none⟩)) (by rfl) (fun W hW => ?_) ?_
        · (try dsimp only at hW)
          go_simp
        try simp only [List.getElem_toArray, List.getElem_cons_succ, List.getElem_cons_zero, Act.put, List.setIfInBounds_toArray, List.set_cons_zero, List.set_cons_succ]
        refine qc_take (.int .u64 x2) (by rfl) (fun W hW => ?_) ?_
        · (try dsimp only at hW)
          have y := Sn.bk_below HR0.out hW (Sn.bk_lt HR0.out)
          have y0 := Sn.bk_c y 0
          have y1 := Sn.bk_c y 1
          simp only [List.getElem?_toArray, List.getElem?_cons_zero, List.getElem?_cons_succ] at y0 y1
          go_simp
        try simp only [List.getElem_toArray, List.getElem_cons_succ, List.getElem_cons_zero, Act.put, List.setIfInBounds_toArray, List.set_cons_zero, List.set_cons_succ]
        refine qc_take (.int .u64 (Wd.msk a)) (by rfl) (fun W hW => ?_) ?_
        · (try dsimp only at hW)
          go_simp
        try simp only [List.getElem_toArray, List.getElem_cons_succ, List.getElem_cons_zero, Act.put, List.setIfInBounds_toArray, List.set_cons_zero, List.set_cons_succ]
        refine qc_take (.pointer (some ⟨w.heap.size + 1, 1, none⟩)) (by rfl) (fun W hW => ?_) ?_
        · (try dsimp only at hW)
          go_simp
        try simp only [List.getElem_toArray, List.getElem_cons_succ, List.getElem_cons_zero, Act.put, List.setIfInBounds_toArray, List.set_cons_zero, List.set_cons_succ]
        refine qc_take (.int .u64 y2) (by rfl) (fun W hW => ?_) ?_
        · (try dsimp only at hW)
          have y := Sn.bk_below HR1.out hW (Sn.bk_lt HR1.out)
          have y0 := Sn.bk_c y 0
          have y1 := Sn.bk_c y 1
          simp only [List.getElem?_toArray, List.getElem?_cons_zero, List.getElem?_cons_succ] at y0 y1
          go_simp
        try simp only [List.getElem_toArray, List.getElem_cons_succ, List.getElem_cons_zero, Act.put, List.setIfInBounds_toArray, List.set_cons_zero, List.set_cons_succ]
        refine qc_take (.int .u64 (Wd.msk a / Wd.pw (Wd.sh y2))) (by rfl) (fun W hW => ?_) ?_
        · (try dsimp only at hW)
          go_simp
          rw [show Wd.sh y2 = y2.toNat by unfold Wd.sh; omega]; rfl
        try simp only [List.getElem_toArray, List.getElem_cons_succ, List.getElem_cons_zero, Act.put, List.setIfInBounds_toArray, List.set_cons_zero, List.set_cons_succ]
        refine qc_take (.bool true) (by rfl) (fun W hW => ?_) ?_
        · (try dsimp only at hW)
          go_simp
        try simp only [List.getElem_toArray, List.getElem_cons_succ, List.getElem_cons_zero, Act.put, List.setIfInBounds_toArray, List.set_cons_zero, List.set_cons_succ]
        refine qc_take (.bool true) (by rfl) (fun W hW => ?_) ?_
        · (try dsimp only at hW)
          go_simp
        try simp only [List.getElem_toArray, List.getElem_cons_succ, List.getElem_cons_zero, Act.put, List.setIfInBounds_toArray, List.set_cons_zero, List.set_cons_succ]
        refine qc_take (.bool true) (by rfl) (fun W hW => ?_) ?_
        · (try dsimp only at hW)
          go_simp
        try simp only [List.getElem_toArray, List.getElem_cons_succ, List.getElem_cons_zero, Act.put, List.setIfInBounds_toArray, List.set_cons_zero, List.set_cons_succ]
        refine wpQuiet_nil ?_
        intro v2 hb
        have hr2 := Sn.bk_below HR2.out hb (Sn.bk_lt HR2.out)
        have hB := Sn.below_next HB.out hb HB.out.size
        clear HB HR2 hb
        have HB := Lib.hid hB
        have HR2 := Lib.hid hr2
        clear hB hr2
        clear HR0 HR1 v
        rename World => v
        go_wp2_with fail
        refine (rising_any true 61 #[] _).mono ?_
        rintro e v4 ⟨rfl, hb⟩
        have hr2 := Sn.bk_below HR2.out hb (Sn.bk_lt HR2.out)
        have hB := Sn.below_next HB.out hb HB.out.size
        clear HB HR2 hb
        have HB := Lib.hid hB
        have HR2 := Lib.hid hr2
        clear hB hr2
        have H1C := Lib.hid (show (#[.bool true, .func (.func 61) #[] #[], .func (.func 61) #[] #[], .bool false] : Array Value).all (·.oneCell') = true from by simp [Value.oneCell'])
        go_wp2_with (with_reducible refine Sn.store_rl (.tmp 8) (.tmp 33) (w.heap.size + 1 + 1) Sn.Z4 #[.bool true, .func (.func 61) #[] #[], .func (.func 61) #[] #[], .bool false] HR2.out rfl rfl rfl rfl rfl rfl H1C.out ?_)
        refine Sn.ret_rl (w.heap.size + 1 + 1) _ (Sn.bk_row HR2.out _) rfl rfl rfl rfl ?_
        refine ⟨_, rfl, fun W hW => ?_, Sn.below_set HB.out (by omega) _⟩
        exact rspan_f 61 61 #[] #[] a (x1, x2) (y1, y2) (IntKind.u64.wrap (x1 * Wd.pw (Wd.sh y1))) (IntKind.u64.wrap (x2 * Wd.pw (Wd.sh y2))) W (fun args W => by simp [go_sem]) (fun args W => by simp [go_sem])
          (fun W2 h2 => by rw [Sn.app0]; exact shlc_any x1 y1 (by omega) W2)
          (fun W2 h2 => by rw [Sn.app0]; exact shlc_any x2 y2 (by omega) W2)
      · rw [Sn.shl_no hy (fun h => g2 h.2)]
        show Calls Try.prog 28 #[.int .i64 16, .int .i64 a, .agg #[.int .u64 x1, .int .u64 x2], .agg #[.int .u64 y1, .int .u64 y2]] w _
        go_enter Try.func28, Try.ntmps28
        go_upto_region 1 with (fail)
        have hB : Below w.heap.size w (((w.alloc (.cells #[.int .u64 x1, .int .u64 x2] 24)).alloc (.cells #[.int .u64 y1, .int .u64 y2] 24)).alloc (.cells Sn.Z4 43)) := ((((Below.refl _ _).alloc (Nat.le_refl _) _).alloc (by simp) _).alloc (by simp; omega) _)
        have hr0 : Sn.Bk (((w.alloc (.cells #[.int .u64 x1, .int .u64 x2] 24)).alloc (.cells #[.int .u64 y1, .int .u64 y2] 24)).alloc (.cells Sn.Z4 43)) (w.heap.size) 24 #[.int .u64 x1, .int .u64 x2] := Sn.bk_old (Sn.bk_old (Sn.bk_new _ _ _) _) _
        have hr1 : Sn.Bk (((w.alloc (.cells #[.int .u64 x1, .int .u64 x2] 24)).alloc (.cells #[.int .u64 y1, .int .u64 y2] 24)).alloc (.cells Sn.Z4 43)) (w.heap.size + 1) 24 #[.int .u64 y1, .int .u64 y2] := Sn.bk_old (Sn.bk_at (by simp)) _
        have hr2 : Sn.Bk (((w.alloc (.cells #[.int .u64 x1, .int .u64 x2] 24)).alloc (.cells #[.int .u64 y1, .int .u64 y2] 24)).alloc (.cells Sn.Z4 43)) (w.heap.size + 1 + 1) 43 Sn.Z4 := Sn.bk_at (by simp)
        generalize (((w.alloc (.cells #[.int .u64 x1, .int .u64 x2] 24)).alloc (.cells #[.int .u64 y1, .int .u64 y2] 24)).alloc (.cells Sn.Z4 43)) = v at *
        have HB := Lib.hid hB
        have HR0 := Lib.hid hr0
        have HR1 := Lib.hid hr1
        have HR2 := Lib.hid hr2
        clear hB hr0 hr1 hr2
        go_upto_region 5 with (go_at_call 21; refine (mask_any _ _).mono ?_; rintro e w' ⟨rfl, rfl⟩)
        rename World => v
        refine qc_all (fun W => Below v.heap.size v W) (by kernel_rfl) (by kernel_rfl) (Below.refl _ _).drew ?_
        refine qc_take (.pointer (some ⟨w.heap.size + 1, 1, none⟩)) (by rfl) (fun W hW => ?_) ?_
        · (try dsimp only at hW)
          go_simp
        try simp only [List.getElem_toArray, List.getElem_cons_succ, List.getElem_cons_zero, Act.put, List.setIfInBounds_toArray, List.set_cons_zero, List.set_cons_succ]
        refine qc_take (.int .u64 y2) (by rfl) (fun W hW => ?_) ?_
        · (try dsimp only at hW)
          have y := Sn.bk_below HR1.out hW (Sn.bk_lt HR1.out)
          have y0 := Sn.bk_c y 0
          have y1 := Sn.bk_c y 1
          simp only [List.getElem?_toArray, List.getElem?_cons_zero, List.getElem?_cons_succ] at y0 y1
          go_simp
        try simp only [List.getElem_toArray, List.getElem_cons_succ, List.getElem_cons_zero, Act.put, List.setIfInBounds_toArray, List.set_cons_zero, List.set_cons_succ]
        refine qc_take (.int .u64 (Wd.msk a)) (by rfl) (fun W hW => ?_) ?_
        · (try dsimp only at hW)
          go_simp
        try simp only [List.getElem_toArray, List.getElem_cons_succ, List.getElem_cons_zero, Act.put, List.setIfInBounds_toArray, List.set_cons_zero, List.set_cons_succ]
        refine qc_take (.int .i64 (Wd.wid a)) (by rfl) (fun W hW => ?_) ?_
        · (try dsimp only at hW)
          go_simp
          have hh := Sn.len_any (Wd.msk a) W (by omega) (by omega)
          rw [Sn.wid_len] at hh
          exact hh.mono fun e w9 h9 => ⟨h9.1, h9.2 ▸ hW⟩
        try simp only [List.getElem_toArray, List.getElem_cons_succ, List.getElem_cons_zero, Act.put, List.setIfInBounds_toArray, List.set_cons_zero, List.set_cons_succ]
        refine qc_take (.int .u64 (Wd.wid a)) (by rfl) (fun W hW => ?_) ?_
        · (try dsimp only at hW)
          go_simp
          rw [IntKind.wrap_u64]; omega
        try simp only [List.getElem_toArray, List.getElem_cons_succ, List.getElem_cons_zero, Act.put, List.setIfInBounds_toArray, List.set_cons_zero, List.set_cons_succ]
        refine qc_take (.bool true) (by rfl) (fun W hW => ?_) ?_
        · (try dsimp only at hW)
          go_simp
        try simp only [List.getElem_toArray, List.getElem_cons_succ, List.getElem_cons_zero, Act.put, List.setIfInBounds_toArray, List.set_cons_zero, List.set_cons_succ]
        refine qc_take (.bool true) (by rfl) (fun W hW => ?_) ?_
        · (try dsimp only at hW)
          go_simp
        try simp only [List.getElem_toArray, List.getElem_cons_succ, List.getElem_cons_zero, Act.put, List.setIfInBounds_toArray, List.set_cons_zero, List.set_cons_succ]
        refine qc_take (.pointer (some ⟨w.heap.size, 1, none⟩)) (by rfl) (fun W hW => ?_) ?_
        · (try dsimp only at hW)
          go_simp
        try simp only [List.getElem_toArray, List.getElem_cons_succ, List.getElem_cons_zero, Act.put, List.setIfInBounds_toArray, List.set_cons_zero, List.set_cons_succ]
        refine qc_take (.int .u64 x2) (by rfl) (fun W hW => ?_) ?_
        · (try dsimp only at hW)
          have y := Sn.bk_below HR0.out hW (Sn.bk_lt HR0.out)
          have y0 := Sn.bk_c y 0
          have y1 := Sn.bk_c y 1
          simp only [List.getElem?_toArray, List.getElem?_cons_zero, List.getElem?_cons_succ] at y0 y1
          go_simp
        try simp only [List.getElem_toArray, List.getElem_cons_succ, List.getElem_cons_zero, Act.put, List.setIfInBounds_toArray, List.set_cons_zero, List.set_cons_succ]
        refine qc_take (.int .u64 (Wd.msk a)) (by rfl) (fun W hW => ?_) ?_
        · (try dsimp only at hW)
          go_simp
        try simp only [List.getElem_toArray, List.getElem_cons_succ, List.getElem_cons_zero, Act.put, List.setIfInBounds_toArray, List.set_cons_zero, List.set_cons_succ]
        refine qc_take (.pointer (some ⟨w.heap.size + 1, 1, none⟩)) (by rfl) (fun W hW => ?_) ?_
        · (try dsimp only at hW)
          go_simp
        try simp only [List.getElem_toArray, List.getElem_cons_succ, List.getElem_cons_zero, Act.put, List.setIfInBounds_toArray, List.set_cons_zero, List.set_cons_succ]
        refine qc_take (.int .u64 y2) (by rfl) (fun W hW => ?_) ?_
        · (try dsimp only at hW)
          have y := Sn.bk_below HR1.out hW (Sn.bk_lt HR1.out)
          have y0 := Sn.bk_c y 0
          have y1 := Sn.bk_c y 1
          simp only [List.getElem?_toArray, List.getElem?_cons_zero, List.getElem?_cons_succ] at y0 y1
          go_simp
        try simp only [List.getElem_toArray, List.getElem_cons_succ, List.getElem_cons_zero, Act.put, List.setIfInBounds_toArray, List.set_cons_zero, List.set_cons_succ]
        refine qc_take (.int .u64 (Wd.msk a / Wd.pw (Wd.sh y2))) (by rfl) (fun W hW => ?_) ?_
        · (try dsimp only at hW)
          go_simp
          rw [show Wd.sh y2 = y2.toNat by unfold Wd.sh; omega]; rfl
        try simp only [List.getElem_toArray, List.getElem_cons_succ, List.getElem_cons_zero, Act.put, List.setIfInBounds_toArray, List.set_cons_zero, List.set_cons_succ]
        refine qc_take (.bool false) (by rfl) (fun W hW => ?_) ?_
        · (try dsimp only at hW)
          go_simp
        try simp only [List.getElem_toArray, List.getElem_cons_succ, List.getElem_cons_zero, Act.put, List.setIfInBounds_toArray, List.set_cons_zero, List.set_cons_succ]
        refine qc_take (.bool false) (by rfl) (fun W hW => ?_) ?_
        · (try dsimp only at hW)
          go_simp
        try simp only [List.getElem_toArray, List.getElem_cons_succ, List.getElem_cons_zero, Act.put, List.setIfInBounds_toArray, List.set_cons_zero, List.set_cons_succ]
        refine qc_take (.bool false) (by rfl) (fun W hW => ?_) ?_
        · (try dsimp only at hW)
          go_simp
        try simp only [List.getElem_toArray, List.getElem_cons_succ, List.getElem_cons_zero, Act.put, List.setIfInBounds_toArray, List.set_cons_zero, List.set_cons_succ]
        refine wpQuiet_nil ?_
        intro v2 hb
        have hr2 := Sn.bk_below HR2.out hb (Sn.bk_lt HR2.out)
        have hB := Sn.below_next HB.out hb HB.out.size
        clear HB HR2 hb
        have HB := Lib.hid hB
        have HR2 := Lib.hid hr2
        clear hB hr2
        clear HR0 HR1 v
        rename World => v
        go_wp2_with fail
        refine (rising_any false 61 #[] _).mono ?_
        rintro e v4 ⟨rfl, hb⟩
        have hr2 := Sn.bk_below HR2.out hb (Sn.bk_lt HR2.out)
        have hB := Sn.below_next HB.out hb HB.out.size
        clear HB HR2 hb
        have HB := Lib.hid hB
        have HR2 := Lib.hid hr2
        clear hB hr2
        have H1C := Lib.hid (show (#[.bool false, .func (.func 61) #[] #[], .func (.func 61) #[] #[], .bool false] : Array Value).all (·.oneCell') = true from by simp [Value.oneCell'])
        go_wp2_with (with_reducible refine Sn.store_rl (.tmp 8) (.tmp 33) (w.heap.size + 1 + 1) Sn.Z4 #[.bool false, .func (.func 61) #[] #[], .func (.func 61) #[] #[], .bool false] HR2.out rfl rfl rfl rfl rfl rfl H1C.out ?_)
        refine Sn.ret_rl (w.heap.size + 1 + 1) _ (Sn.bk_row HR2.out _) rfl rfl rfl rfl ?_
        refine ⟨_, rfl, fun W hW => ?_, Sn.below_set HB.out (by omega) _⟩
        exact rspan_no false 61 61 #[] #[] a (x1, x2) (y1, y2) W
    · rw [Sn.shl_no hy (fun h => g1 h.1)]
      show Calls Try.prog 28 #[.int .i64 16, .int .i64 a, .agg #[.int .u64 x1, .int .u64 x2], .agg #[.int .u64 y1, .int .u64 y2]] w _
      go_enter Try.func28, Try.ntmps28
      go_upto_region 1 with (fail)
      have hB : Below w.heap.size w (((w.alloc (.cells #[.int .u64 x1, .int .u64 x2] 24)).alloc (.cells #[.int .u64 y1, .int .u64 y2] 24)).alloc (.cells Sn.Z4 43)) := ((((Below.refl _ _).alloc (Nat.le_refl _) _).alloc (by simp) _).alloc (by simp; omega) _)
      have hr0 : Sn.Bk (((w.alloc (.cells #[.int .u64 x1, .int .u64 x2] 24)).alloc (.cells #[.int .u64 y1, .int .u64 y2] 24)).alloc (.cells Sn.Z4 43)) (w.heap.size) 24 #[.int .u64 x1, .int .u64 x2] := Sn.bk_old (Sn.bk_old (Sn.bk_new _ _ _) _) _
      have hr1 : Sn.Bk (((w.alloc (.cells #[.int .u64 x1, .int .u64 x2] 24)).alloc (.cells #[.int .u64 y1, .int .u64 y2] 24)).alloc (.cells Sn.Z4 43)) (w.heap.size + 1) 24 #[.int .u64 y1, .int .u64 y2] := Sn.bk_old (Sn.bk_at (by simp)) _
      have hr2 : Sn.Bk (((w.alloc (.cells #[.int .u64 x1, .int .u64 x2] 24)).alloc (.cells #[.int .u64 y1, .int .u64 y2] 24)).alloc (.cells Sn.Z4 43)) (w.heap.size + 1 + 1) 43 Sn.Z4 := Sn.bk_at (by simp)
      generalize (((w.alloc (.cells #[.int .u64 x1, .int .u64 x2] 24)).alloc (.cells #[.int .u64 y1, .int .u64 y2] 24)).alloc (.cells Sn.Z4 43)) = v at *
      have HB := Lib.hid hB
      have HR0 := Lib.hid hr0
      have HR1 := Lib.hid hr1
      have HR2 := Lib.hid hr2
      clear hB hr0 hr1 hr2
      go_upto_region 5 with (go_at_call 21; refine (mask_any _ _).mono ?_; rintro e w' ⟨rfl, rfl⟩)
      rename World => v
      refine qc_all (fun W => Below v.heap.size v W) (by kernel_rfl) (by kernel_rfl) (Below.refl _ _).drew ?_
      refine qc_take (.pointer (some ⟨w.heap.size + 1, 1, none⟩)) (by rfl) (fun W hW => ?_) ?_
      · (try dsimp only at hW)
        go_simp
      try simp only [List.getElem_toArray, List.getElem_cons_succ, List.getElem_cons_zero, Act.put, List.setIfInBounds_toArray, List.set_cons_zero, List.set_cons_succ]
      refine qc_take (.int .u64 y2) (by rfl) (fun W hW => ?_) ?_
      · (try dsimp only at hW)
        have y := Sn.bk_below HR1.out hW (Sn.bk_lt HR1.out)
        have y0 := Sn.bk_c y 0
        have y1 := Sn.bk_c y 1
        simp only [List.getElem?_toArray, List.getElem?_cons_zero, List.getElem?_cons_succ] at y0 y1
        go_simp
      try simp only [List.getElem_toArray, List.getElem_cons_succ, List.getElem_cons_zero, Act.put, List.setIfInBounds_toArray, List.set_cons_zero, List.set_cons_succ]
      refine qc_take (.int .u64 (Wd.msk a)) (by rfl) (fun W hW => ?_) ?_
      · (try dsimp only at hW)
        go_simp
      try simp only [List.getElem_toArray, List.getElem_cons_succ, List.getElem_cons_zero, Act.put, List.setIfInBounds_toArray, List.set_cons_zero, List.set_cons_succ]
      refine qc_take (.int .i64 (Wd.wid a)) (by rfl) (fun W hW => ?_) ?_
      · (try dsimp only at hW)
        go_simp
        have hh := Sn.len_any (Wd.msk a) W (by omega) (by omega)
        rw [Sn.wid_len] at hh
        exact hh.mono fun e w9 h9 => ⟨h9.1, h9.2 ▸ hW⟩
      try simp only [List.getElem_toArray, List.getElem_cons_succ, List.getElem_cons_zero, Act.put, List.setIfInBounds_toArray, List.set_cons_zero, List.set_cons_succ]
      refine qc_take (.int .u64 (Wd.wid a)) (by rfl) (fun W hW => ?_) ?_
      · (try dsimp only at hW)
        go_simp
        rw [IntKind.wrap_u64]; omega
      try simp only [List.getElem_toArray, List.getElem_cons_succ, List.getElem_cons_zero, Act.put, List.setIfInBounds_toArray, List.set_cons_zero, List.set_cons_succ]
      refine qc_take (.bool false) (by rfl) (fun W hW => ?_) ?_
      · (try dsimp only at hW)
        go_simp
      try simp only [List.getElem_toArray, List.getElem_cons_succ, List.getElem_cons_zero, Act.put, List.setIfInBounds_toArray, List.set_cons_zero, List.set_cons_succ]
      refine qc_take (.bool false) (by rfl) (fun W hW => ?_) ?_
      · (try dsimp only at hW)
        go_simp
      try simp only [List.getElem_toArray, List.getElem_cons_succ, List.getElem_cons_zero, Act.put, List.setIfInBounds_toArray, List.set_cons_zero, List.set_cons_succ]
      refine qc_skip (by rfl) ?_
      try simp only [List.getElem_toArray, List.getElem_cons_succ, List.getElem_cons_zero, Act.put, List.setIfInBounds_toArray, List.set_cons_zero, List.set_cons_succ]
      refine qc_skip (by rfl) ?_
      try simp only [List.getElem_toArray, List.getElem_cons_succ, List.getElem_cons_zero, Act.put, List.setIfInBounds_toArray, List.set_cons_zero, List.set_cons_succ]
      refine qc_skip (by rfl) ?_
      try simp only [List.getElem_toArray, List.getElem_cons_succ, List.getElem_cons_zero, Act.put, List.setIfInBounds_toArray, List.set_cons_zero, List.set_cons_succ]
      refine qc_skip (by rfl) ?_
      try simp only [List.getElem_toArray, List.getElem_cons_succ, List.getElem_cons_zero, Act.put, List.setIfInBounds_toArray, List.set_cons_zero, List.set_cons_succ]
      refine qc_skip (by rfl) ?_
      try simp only [List.getElem_toArray, List.getElem_cons_succ, List.getElem_cons_zero, Act.put, List.setIfInBounds_toArray, List.set_cons_zero, List.set_cons_succ]
      refine qc_skip (by rfl) ?_
      try simp only [List.getElem_toArray, List.getElem_cons_succ, List.getElem_cons_zero, Act.put, List.setIfInBounds_toArray, List.set_cons_zero, List.set_cons_succ]
      refine qc_skip (by rfl) ?_
      try simp only [List.getElem_toArray, List.getElem_cons_succ, List.getElem_cons_zero, Act.put, List.setIfInBounds_toArray, List.set_cons_zero, List.set_cons_succ]
      refine qc_take (.bool false) (by rfl) (fun W hW => ?_) ?_
      · (try dsimp only at hW)
        go_simp
      try simp only [List.getElem_toArray, List.getElem_cons_succ, List.getElem_cons_zero, Act.put, List.setIfInBounds_toArray, List.set_cons_zero, List.set_cons_succ]
      refine qc_take (.bool false) (by rfl) (fun W hW => ?_) ?_
      · (try dsimp only at hW)
        go_simp
      try simp only [List.getElem_toArray, List.getElem_cons_succ, List.getElem_cons_zero, Act.put, List.setIfInBounds_toArray, List.set_cons_zero, List.set_cons_succ]
      refine wpQuiet_nil ?_
      intro v2 hb
      have hr2 := Sn.bk_below HR2.out hb (Sn.bk_lt HR2.out)
      have hB := Sn.below_next HB.out hb HB.out.size
      clear HB HR2 hb
      have HB := Lib.hid hB
      have HR2 := Lib.hid hr2
      clear hB hr2
      clear HR0 HR1 v
      rename World => v
      go_wp2_with fail
      refine (rising_any false 61 #[] _).mono ?_
      rintro e v4 ⟨rfl, hb⟩
      have hr2 := Sn.bk_below HR2.out hb (Sn.bk_lt HR2.out)
      have hB := Sn.below_next HB.out hb HB.out.size
      clear HB HR2 hb
      have HB := Lib.hid hB
      have HR2 := Lib.hid hr2
      clear hB hr2
      have H1C := Lib.hid (show (#[.bool false, .func (.func 61) #[] #[], .func (.func 61) #[] #[], .bool false] : Array Value).all (·.oneCell') = true from by simp [Value.oneCell'])
      go_wp2_with (with_reducible refine Sn.store_rl (.tmp 8) (.tmp 33) (w.heap.size + 1 + 1) Sn.Z4 #[.bool false, .func (.func 61) #[] #[], .func (.func 61) #[] #[], .bool false] HR2.out rfl rfl rfl rfl rfl rfl H1C.out ?_)
      refine Sn.ret_rl (w.heap.size + 1 + 1) _ (Sn.bk_row HR2.out _) rfl rfl rfl rfl ?_
      refine ⟨_, rfl, fun W hW => ?_, Sn.below_set HB.out (by omega) _⟩
      exact rspan_no false 61 61 #[] #[] a (x1, x2) (y1, y2) W
  · subst h
    rw [show Sn.tab 17 a (x1, x2) (y1, y2) = (x1 / Wd.pw (Wd.sh y2), x2 / Wd.pw (Wd.sh y1)) from rfl]
    show Calls Try.prog 28 #[.int .i64 17, .int .i64 a, .agg #[.int .u64 x1, .int .u64 x2], .agg #[.int .u64 y1, .int .u64 y2]] w _
    go_enter Try.func28, Try.ntmps28
    go_upto_region 1 with (fail)
    have hB : Below w.heap.size w (((w.alloc (.cells #[.int .u64 x1, .int .u64 x2] 24)).alloc (.cells #[.int .u64 y1, .int .u64 y2] 24)).alloc (.cells Sn.Z4 43)) := ((((Below.refl _ _).alloc (Nat.le_refl _) _).alloc (by simp) _).alloc (by simp; omega) _)
    have hr0 : Sn.Bk (((w.alloc (.cells #[.int .u64 x1, .int .u64 x2] 24)).alloc (.cells #[.int .u64 y1, .int .u64 y2] 24)).alloc (.cells Sn.Z4 43)) (w.heap.size) 24 #[.int .u64 x1, .int .u64 x2] := Sn.bk_old (Sn.bk_old (Sn.bk_new _ _ _) _) _
    have hr1 : Sn.Bk (((w.alloc (.cells #[.int .u64 x1, .int .u64 x2] 24)).alloc (.cells #[.int .u64 y1, .int .u64 y2] 24)).alloc (.cells Sn.Z4 43)) (w.heap.size + 1) 24 #[.int .u64 y1, .int .u64 y2] := Sn.bk_old (Sn.bk_at (by simp)) _
    have hr2 : Sn.Bk (((w.alloc (.cells #[.int .u64 x1, .int .u64 x2] 24)).alloc (.cells #[.int .u64 y1, .int .u64 y2] 24)).alloc (.cells Sn.Z4 43)) (w.heap.size + 1 + 1) 43 Sn.Z4 := Sn.bk_at (by simp)
    generalize (((w.alloc (.cells #[.int .u64 x1, .int .u64 x2] 24)).alloc (.cells #[.int .u64 y1, .int .u64 y2] 24)).alloc (.cells Sn.Z4 43)) = v at *
    have HB := Lib.hid hB
    have HR0 := Lib.hid hr0
    have HR1 := Lib.hid hr1
    have HR2 := Lib.hid hr2
    clear hB hr0 hr1 hr2
    go_wp2_with fail
    refine (crossing_any true 60 #[] _).mono ?_
    rintro e v4 ⟨rfl, hb⟩
    have hr2 := Sn.bk_below HR2.out hb (Sn.bk_lt HR2.out)
    have hB := Sn.below_next HB.out hb HB.out.size
    clear HB HR2 hb
    have HB := Lib.hid hB
    have HR2 := Lib.hid hr2
    clear hB hr2
    have H1C := Lib.hid (show (#[.bool true, .func (.func 60) #[] #[], .func (.func 60) #[] #[], .bool true] : Array Value).all (·.oneCell') = true from by simp [Value.oneCell'])
    go_wp2_with (with_reducible refine Sn.store_rl (.tmp 8) (.tmp 42) (w.heap.size + 1 + 1) Sn.Z4 #[.bool true, .func (.func 60) #[] #[], .func (.func 60) #[] #[], .bool true] HR2.out rfl rfl rfl rfl rfl rfl H1C.out ?_)
    refine Sn.ret_rl (w.heap.size + 1 + 1) _ (Sn.bk_row HR2.out _) rfl rfl rfl rfl ?_
    refine ⟨_, rfl, fun W hW => ?_, Sn.below_set HB.out (by omega) _⟩
    exact rspan_t 60 60 #[] #[] a (x1, x2) (y1, y2) (x1 / Wd.pw (Wd.sh y2)) (x2 / Wd.pw (Wd.sh y1)) W (fun args W => by simp [go_sem]) (fun args W => by simp [go_sem])
      (fun W2 h2 => by rw [Sn.app0]; exact shrc_any x1 y2 (by omega) (by omega) W2)
      (fun W2 h2 => by rw [Sn.app0]; exact shrc_any x2 y1 (by omega) (by omega) W2)
  · subst h
    by_cases g1 : x2 < Wd.hib a
    · rw [show Sn.tab 18 a (x1, x2) (y1, y2) = (x1 / Wd.pw (Wd.sh y2), x2 / Wd.pw (Wd.sh y1)) from if_pos g1]
      have HL := Lib.hid (fun W => low_is hx (b := true) (by simp; omega) W)
      show Calls Try.prog 28 #[.int .i64 18, .int .i64 a, .agg #[.int .u64 x1, .int .u64 x2], .agg #[.int .u64 y1, .int .u64 y2]] w _
      go_enter Try.func28, Try.ntmps28
      go_upto_region 1 with (fail)
      have hB : Below w.heap.size w (((w.alloc (.cells #[.int .u64 x1, .int .u64 x2] 24)).alloc (.cells #[.int .u64 y1, .int .u64 y2] 24)).alloc (.cells Sn.Z4 43)) := ((((Below.refl _ _).alloc (Nat.le_refl _) _).alloc (by simp) _).alloc (by simp; omega) _)
      have hr0 : Sn.Bk (((w.alloc (.cells #[.int .u64 x1, .int .u64 x2] 24)).alloc (.cells #[.int .u64 y1, .int .u64 y2] 24)).alloc (.cells Sn.Z4 43)) (w.heap.size) 24 #[.int .u64 x1, .int .u64 x2] := Sn.bk_old (Sn.bk_old (Sn.bk_new _ _ _) _) _
      have hr1 : Sn.Bk (((w.alloc (.cells #[.int .u64 x1, .int .u64 x2] 24)).alloc (.cells #[.int .u64 y1, .int .u64 y2] 24)).alloc (.cells Sn.Z4 43)) (w.heap.size + 1) 24 #[.int .u64 y1, .int .u64 y2] := Sn.bk_old (Sn.bk_at (by simp)) _
      have hr2 : Sn.Bk (((w.alloc (.cells #[.int .u64 x1, .int .u64 x2] 24)).alloc (.cells #[.int .u64 y1, .int .u64 y2] 24)).alloc (.cells Sn.Z4 43)) (w.heap.size + 1 + 1) 43 Sn.Z4 := Sn.bk_at (by simp)
      generalize (((w.alloc (.cells #[.int .u64 x1, .int .u64 x2] 24)).alloc (.cells #[.int .u64 y1, .int .u64 y2] 24)).alloc (.cells Sn.Z4 43)) = v at *
      have HB := Lib.hid hB
      have HR0 := Lib.hid hr0
      have HR1 := Lib.hid hr1
      have HR2 := Lib.hid hr2
      clear hB hr0 hr1 hr2
      go_wp2_with (with_reducible refine Sn.load_sp (.tmp 6) (w.heap.size) #[.int .u64 x1, .int .u64 x2] HR0.out rfl rfl rfl rfl ?_)
      refine (HL.out v).mono ?_
      rintro e v2 ⟨rfl, hb⟩
      have hr2 := Sn.bk_below HR2.out hb (Sn.bk_lt HR2.out)
      have hB := Sn.below_next HB.out hb HB.out.size
      clear HB HR2 hb
      have HB := Lib.hid hB
      have HR2 := Lib.hid hr2
      clear hB hr2
      clear HR0 HR1 v
      rename World => v
      go_wp2_with fail
      refine (crossing_any true 60 #[] _).mono ?_
      rintro e v4 ⟨rfl, hb⟩
      have hr2 := Sn.bk_below HR2.out hb (Sn.bk_lt HR2.out)
      have hB := Sn.below_next HB.out hb HB.out.size
      clear HB HR2 hb
      have HB := Lib.hid hB
      have HR2 := Lib.hid hr2
      clear hB hr2
      have H1C := Lib.hid (show (#[.bool true, .func (.func 60) #[] #[], .func (.func 60) #[] #[], .bool true] : Array Value).all (·.oneCell') = true from by simp [Value.oneCell'])
      go_wp2_with (with_reducible refine Sn.store_rl (.tmp 8) (.tmp 40) (w.heap.size + 1 + 1) Sn.Z4 #[.bool true, .func (.func 60) #[] #[], .func (.func 60) #[] #[], .bool true] HR2.out rfl rfl rfl rfl rfl rfl H1C.out ?_)
      refine Sn.ret_rl (w.heap.size + 1 + 1) _ (Sn.bk_row HR2.out _) rfl rfl rfl rfl ?_
      refine ⟨_, rfl, fun W hW => ?_, Sn.below_set HB.out (by omega) _⟩
      exact rspan_t 60 60 #[] #[] a (x1, x2) (y1, y2) (x1 / Wd.pw (Wd.sh y2)) (x2 / Wd.pw (Wd.sh y1)) W (fun args W => by simp [go_sem]) (fun args W => by simp [go_sem])
        (fun W2 h2 => by rw [Sn.app0]; exact shrc_any x1 y2 (by omega) (by omega) W2)
        (fun W2 h2 => by rw [Sn.app0]; exact shrc_any x2 y1 (by omega) (by omega) W2)
    · rw [show Sn.tab 18 a (x1, x2) (y1, y2) = Sn.whole a from if_neg g1]
      have HL := Lib.hid (fun W => low_is hx (b := false) (by simp; omega) W)
      show Calls Try.prog 28 #[.int .i64 18, .int .i64 a, .agg #[.int .u64 x1, .int .u64 x2], .agg #[.int .u64 y1, .int .u64 y2]] w _
      go_enter Try.func28, Try.ntmps28
      go_upto_region 1 with (fail)
      have hB : Below w.heap.size w (((w.alloc (.cells #[.int .u64 x1, .int .u64 x2] 24)).alloc (.cells #[.int .u64 y1, .int .u64 y2] 24)).alloc (.cells Sn.Z4 43)) := ((((Below.refl _ _).alloc (Nat.le_refl _) _).alloc (by simp) _).alloc (by simp; omega) _)
      have hr0 : Sn.Bk (((w.alloc (.cells #[.int .u64 x1, .int .u64 x2] 24)).alloc (.cells #[.int .u64 y1, .int .u64 y2] 24)).alloc (.cells Sn.Z4 43)) (w.heap.size) 24 #[.int .u64 x1, .int .u64 x2] := Sn.bk_old (Sn.bk_old (Sn.bk_new _ _ _) _) _
      have hr1 : Sn.Bk (((w.alloc (.cells #[.int .u64 x1, .int .u64 x2] 24)).alloc (.cells #[.int .u64 y1, .int .u64 y2] 24)).alloc (.cells Sn.Z4 43)) (w.heap.size + 1) 24 #[.int .u64 y1, .int .u64 y2] := Sn.bk_old (Sn.bk_at (by simp)) _
      have hr2 : Sn.Bk (((w.alloc (.cells #[.int .u64 x1, .int .u64 x2] 24)).alloc (.cells #[.int .u64 y1, .int .u64 y2] 24)).alloc (.cells Sn.Z4 43)) (w.heap.size + 1 + 1) 43 Sn.Z4 := Sn.bk_at (by simp)
      generalize (((w.alloc (.cells #[.int .u64 x1, .int .u64 x2] 24)).alloc (.cells #[.int .u64 y1, .int .u64 y2] 24)).alloc (.cells Sn.Z4 43)) = v at *
      have HB := Lib.hid hB
      have HR0 := Lib.hid hr0
      have HR1 := Lib.hid hr1
      have HR2 := Lib.hid hr2
      clear hB hr0 hr1 hr2
      go_wp2_with (with_reducible refine Sn.load_sp (.tmp 6) (w.heap.size) #[.int .u64 x1, .int .u64 x2] HR0.out rfl rfl rfl rfl ?_)
      refine (HL.out v).mono ?_
      rintro e v2 ⟨rfl, hb⟩
      have hr2 := Sn.bk_below HR2.out hb (Sn.bk_lt HR2.out)
      have hB := Sn.below_next HB.out hb HB.out.size
      clear HB HR2 hb
      have HB := Lib.hid hB
      have HR2 := Lib.hid hr2
      clear hB hr2
      clear HR0 HR1 v
      rename World => v
      go_wp2_with fail
      refine (crossing_any false 60 #[] _).mono ?_
      rintro e v4 ⟨rfl, hb⟩
      have hr2 := Sn.bk_below HR2.out hb (Sn.bk_lt HR2.out)
      have hB := Sn.below_next HB.out hb HB.out.size
      clear HB HR2 hb
      have HB := Lib.hid hB
      have HR2 := Lib.hid hr2
      clear hB hr2
      have H1C := Lib.hid (show (#[.bool false, .func (.func 60) #[] #[], .func (.func 60) #[] #[], .bool true] : Array Value).all (·.oneCell') = true from by simp [Value.oneCell'])
      go_wp2_with (with_reducible refine Sn.store_rl (.tmp 8) (.tmp 40) (w.heap.size + 1 + 1) Sn.Z4 #[.bool false, .func (.func 60) #[] #[], .func (.func 60) #[] #[], .bool true] HR2.out rfl rfl rfl rfl rfl rfl H1C.out ?_)
      refine Sn.ret_rl (w.heap.size + 1 + 1) _ (Sn.bk_row HR2.out _) rfl rfl rfl rfl ?_
      refine ⟨_, rfl, fun W hW => ?_, Sn.below_set HB.out (by omega) _⟩
      exact rspan_no true 60 60 #[] #[] a (x1, x2) (y1, y2) W


end Go.Proofs.Ytbjckcjfambpoaa
