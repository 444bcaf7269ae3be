/-
  Layer 11: the reference's parts.
  Layer 11: the reference's shifts.
  Layer 11: the reference's Apply.
-/
import Derived.Test.YtbjckcjfambpoaaSnGA
import Derived.Test.YtbjckcjfambpoaaSnP2
import Derived.Test.YtbjckcjfambpoaaSnGB
set_option linter.unusedSimpArgs false
set_option linter.unusedVariables false
namespace Go.Proofs.Ytbjckcjfambpoaa
set_option linter.unusedSimpArgs false
set_option linter.unusedVariables false
open Go.RowKit Go.Maps
set_option maxRecDepth 100000

theorem Sn.quo_code (x y : Int) (x0 : 0 ≤ x) (x1 : x < 18446744073709551616) (y0 : 0 ≤ y) : IntKind.u64.wrap (x.tdiv y) = x / y := by
  rw [Int.tdiv_eq_ediv_of_nonneg x0, IntKind.wrap_u64]
  have h1 := Int.ediv_nonneg x0 y0
  have h2 := Int.ediv_le_self y x0
  omega
/-- What the reference's parts tell. -/
def Sn.parR (op a : Int) (x y : Sn.S) : Sn.S × Bool := if op = 11 ∧ y.1 = 0 then ((0, 0), false) else (Sn.tab op a x y, true)

set_option maxHeartbeats 25600000 in
theorem rparts_any (op a : Int) (x y : Sn.S) (hop : op = 11 ∨ op = 12 ∨ op = 13 ∨ op = 14 ∨ op = 15) (hx : Sn.Ok a x) (hy : Sn.Ok a y) (w : World) :
    Calls Try.prog 35 #[.int .i64 op, Sn.v x, Sn.v y] w fun e w' => e = .returned (.tuple #[Sn.v (Sn.parR op a x y).1, .bool (Sn.parR op a x y).2]) ∧ Below w.heap.size w w' := by
  obtain ⟨x1, x2⟩ := x
  obtain ⟨y1, y2⟩ := y
  have hm := Wd.msk_hi a
  have hx2 := hx
  have hy2 := hy
  unfold Sn.Ok at hx2 hy2
  dsimp only at hx2 hy2
  have ex10 : 0 ≤ x1 := by omega
  have ex11 : x1 < 18446744073709551616 := by omega
  have ex20 : 0 ≤ x2 := by omega
  have ex21 : x2 < 18446744073709551616 := by omega
  have ey10 : 0 ≤ y1 := by omega
  have ey11 : y1 < 18446744073709551616 := by omega
  have ey20 : 0 ≤ y2 := by omega
  have ey21 : y2 < 18446744073709551616 := by omega
  rcases hop with h | h | h | h | h
  · subst h
    by_cases g1 : y1 = 0
    · subst g1
      rw [show Sn.parR 11 a (x1, x2) (0, y2) = ((0, 0), false) from rfl]
      show Calls Try.prog 35 #[.int .i64 11, .agg #[.int .u64 x1, .int .u64 x2], .agg #[.int .u64 0, .int .u64 y2]] w _
      go_enter Try.func35, Try.ntmps35
      go_upto_region 1 with (fail)
      have hB : Below w.heap.size w (((w.alloc (.cells #[.int .u64 x1, .int .u64 x2] 24)).alloc (.cells #[.int .u64 0, .int .u64 y2] 24)).alloc (.cells #[.int .u64 0, .int .u64 0] 24)) := ((((Below.refl _ _).alloc (Nat.le_refl _) _).alloc (by simp) _).alloc (by simp; omega) _)
      have hr0 : Sn.Bk (((w.alloc (.cells #[.int .u64 x1, .int .u64 x2] 24)).alloc (.cells #[.int .u64 0, .int .u64 y2] 24)).alloc (.cells #[.int .u64 0, .int .u64 0] 24)) (w.heap.size) 24 #[.int .u64 x1, .int .u64 x2] := Sn.bk_old (Sn.bk_old (Sn.bk_new _ _ _) _) _
      have hr1 : Sn.Bk (((w.alloc (.cells #[.int .u64 x1, .int .u64 x2] 24)).alloc (.cells #[.int .u64 0, .int .u64 y2] 24)).alloc (.cells #[.int .u64 0, .int .u64 0] 24)) (w.heap.size + 1) 24 #[.int .u64 0, .int .u64 y2] := Sn.bk_old (Sn.bk_at (by simp)) _
      have hr2 : Sn.Bk (((w.alloc (.cells #[.int .u64 x1, .int .u64 x2] 24)).alloc (.cells #[.int .u64 0, .int .u64 y2] 24)).alloc (.cells #[.int .u64 0, .int .u64 0] 24)) (w.heap.size + 1 + 1) 24 #[.int .u64 0, .int .u64 0] := Sn.bk_at (by simp)
      generalize (((w.alloc (.cells #[.int .u64 x1, .int .u64 x2] 24)).alloc (.cells #[.int .u64 0, .int .u64 y2] 24)).alloc (.cells #[.int .u64 0, .int .u64 0] 24)) = v at *
      have HB := Lib.hid hB
      have HR0 := Lib.hid hr0
      have HR1 := Lib.hid hr1
      have HR2 := Lib.hid hr2
      clear hB hr0 hr1 hr2
      refine qc_all (fun W => Below v.heap.size v W) (by kernel_rfl) (by kernel_rfl) (Below.refl _ _).drew ?_
      refine qc_take (.pointer (some ⟨w.heap.size, 0, none⟩)) (by rfl) (fun W (hW : Below _ _ W) => ?_) ?_
      · skip
        go_simp
      try simp only [Act.put, List.setIfInBounds_toArray, List.set_cons_zero, List.set_cons_succ]
      refine qc_take (.int .u64 x1) (by rfl) (fun W (hW : Below _ _ W) => ?_) ?_
      · skip
        obtain ⟨y0, y1⟩ := Sn.c2 HR0.out hW
        go_simp
      try simp only [Act.put, List.setIfInBounds_toArray, List.set_cons_zero, List.set_cons_succ]
      refine qc_take (.pointer (some ⟨w.heap.size, 1, none⟩)) (by rfl) (fun W (hW : Below _ _ W) => ?_) ?_
      · skip
        go_simp
      try simp only [Act.put, List.setIfInBounds_toArray, List.set_cons_zero, List.set_cons_succ]
      refine qc_take (.int .u64 x2) (by rfl) (fun W (hW : Below _ _ W) => ?_) ?_
      · skip
        obtain ⟨y0, y1⟩ := Sn.c2 HR0.out hW
        go_simp
      try simp only [Act.put, List.setIfInBounds_toArray, List.set_cons_zero, List.set_cons_succ]
      refine qc_take (.pointer (some ⟨w.heap.size + 1, 0, none⟩)) (by rfl) (fun W (hW : Below _ _ W) => ?_) ?_
      · skip
        go_simp
      try simp only [Act.put, List.setIfInBounds_toArray, List.set_cons_zero, List.set_cons_succ]
      refine qc_take (.int .u64 0) (by rfl) (fun W (hW : Below _ _ W) => ?_) ?_
      · skip
        obtain ⟨y0, y1⟩ := Sn.c2 HR1.out hW
        go_simp
      try simp only [Act.put, List.setIfInBounds_toArray, List.set_cons_zero, List.set_cons_succ]
      refine qc_take (.pointer (some ⟨w.heap.size + 1, 1, none⟩)) (by rfl) (fun W (hW : Below _ _ W) => ?_) ?_
      · skip
        go_simp
      try simp only [Act.put, List.setIfInBounds_toArray, List.set_cons_zero, List.set_cons_succ]
      refine qc_take (.int .u64 y2) (by rfl) (fun W (hW : Below _ _ W) => ?_) ?_
      · skip
        obtain ⟨y0, y1⟩ := Sn.c2 HR1.out hW
        go_simp
      try simp only [Act.put, List.setIfInBounds_toArray, List.set_cons_zero, List.set_cons_succ]
      refine qc_take (.int .u64 x1) (by rfl) (fun W (hW : Below _ _ W) => ?_) ?_
      · skip
        go_simp
      try simp only [Act.put, List.setIfInBounds_toArray, List.set_cons_zero, List.set_cons_succ]
      refine qc_take (.int .u64 x2) (by rfl) (fun W (hW : Below _ _ W) => ?_) ?_
      · skip
        go_simp
      try simp only [Act.put, List.setIfInBounds_toArray, List.set_cons_zero, List.set_cons_succ]
      refine qc_take (.int .u64 0) (by rfl) (fun W (hW : Below _ _ W) => ?_) ?_
      · skip
        go_simp
      try simp only [Act.put, List.setIfInBounds_toArray, List.set_cons_zero, List.set_cons_succ]
      refine qc_take (.int .u64 y2) (by rfl) (fun W (hW : Below _ _ W) => ?_) ?_
      · skip
        go_simp
      try simp only [Act.put, List.setIfInBounds_toArray, List.set_cons_zero, List.set_cons_succ]
      refine wpQuiet_nil ?_
      intro v2 hb
      have hr2 := Sn.bk_below HR2.out hb (Sn.bk_lt HR2.out)
      have hB := Sn.below_next HB.out hb HB.out.size
      clear HB HR2 hb
      have HB := Lib.hid hB
      have HR2 := Lib.hid hr2
      clear hB hr2
      clear HR0 HR1 v
      rename World => v
      go_wp2_with (first | (with_reducible refine Sn.store_sp (.tmp 6) (.tmp 68) (w.heap.size + 1 + 1) #[.int .u64 0, .int .u64 0] _ HR2.out rfl rfl rfl rfl rfl rfl (by simp [Value.oneCell']) ?_))
      refine Sn.ret_sp2 (w.heap.size + 1 + 1) _ _ (Sn.bk_row HR2.out _) rfl rfl rfl rfl rfl ⟨Sn.ret_t _ ?_ ?_, Sn.below_set HB.out (by omega) _⟩
      all_goals first | rfl | omega | (simp only [IntKind.wrap_u64]; omega)
    · have d0 : (y1 != 0) = true := by simpa using g1
      have g2 : ¬ y2 = 0 := by omega
      rw [show Sn.parR 11 a (x1, x2) (y1, y2) = ((x1 / y2, x2 / y1), true) from (if_neg (fun h => g1 h.2)).trans (by rw [Sn.div_yes g1])]
      show Calls Try.prog 35 #[.int .i64 11, .agg #[.int .u64 x1, .int .u64 x2], .agg #[.int .u64 y1, .int .u64 y2]] w _
      go_enter Try.func35, Try.ntmps35
      go_upto_region 1 with (fail)
      have hB : Below w.heap.size w (((w.alloc (.cells #[.int .u64 x1, .int .u64 x2] 24)).alloc (.cells #[.int .u64 y1, .int .u64 y2] 24)).alloc (.cells #[.int .u64 0, .int .u64 0] 24)) := ((((Below.refl _ _).alloc (Nat.le_refl _) _).alloc (by simp) _).alloc (by simp; omega) _)
      have hr0 : Sn.Bk (((w.alloc (.cells #[.int .u64 x1, .int .u64 x2] 24)).alloc (.cells #[.int .u64 y1, .int .u64 y2] 24)).alloc (.cells #[.int .u64 0, .int .u64 0] 24)) (w.heap.size) 24 #[.int .u64 x1, .int .u64 x2] := Sn.bk_old (Sn.bk_old (Sn.bk_new _ _ _) _) _
      have hr1 : Sn.Bk (((w.alloc (.cells #[.int .u64 x1, .int .u64 x2] 24)).alloc (.cells #[.int .u64 y1, .int .u64 y2] 24)).alloc (.cells #[.int .u64 0, .int .u64 0] 24)) (w.heap.size + 1) 24 #[.int .u64 y1, .int .u64 y2] := Sn.bk_old (Sn.bk_at (by simp)) _
      have hr2 : Sn.Bk (((w.alloc (.cells #[.int .u64 x1, .int .u64 x2] 24)).alloc (.cells #[.int .u64 y1, .int .u64 y2] 24)).alloc (.cells #[.int .u64 0, .int .u64 0] 24)) (w.heap.size + 1 + 1) 24 #[.int .u64 0, .int .u64 0] := Sn.bk_at (by simp)
      generalize (((w.alloc (.cells #[.int .u64 x1, .int .u64 x2] 24)).alloc (.cells #[.int .u64 y1, .int .u64 y2] 24)).alloc (.cells #[.int .u64 0, .int .u64 0] 24)) = v at *
      have HB := Lib.hid hB
      have HR0 := Lib.hid hr0
      have HR1 := Lib.hid hr1
      have HR2 := Lib.hid hr2
      clear hB hr0 hr1 hr2
      refine qc_all (fun W => Below v.heap.size v W) (by kernel_rfl) (by kernel_rfl) (Below.refl _ _).drew ?_
      refine qc_take (.pointer (some ⟨w.heap.size, 0, none⟩)) (by rfl) (fun W (hW : Below _ _ W) => ?_) ?_
      · skip
        go_simp
      try simp only [Act.put, List.setIfInBounds_toArray, List.set_cons_zero, List.set_cons_succ]
      refine qc_take (.int .u64 x1) (by rfl) (fun W (hW : Below _ _ W) => ?_) ?_
      · skip
        obtain ⟨y0, y1⟩ := Sn.c2 HR0.out hW
        go_simp
      try simp only [Act.put, List.setIfInBounds_toArray, List.set_cons_zero, List.set_cons_succ]
      refine qc_take (.pointer (some ⟨w.heap.size, 1, none⟩)) (by rfl) (fun W (hW : Below _ _ W) => ?_) ?_
      · skip
        go_simp
      try simp only [Act.put, List.setIfInBounds_toArray, List.set_cons_zero, List.set_cons_succ]
      refine qc_take (.int .u64 x2) (by rfl) (fun W (hW : Below _ _ W) => ?_) ?_
      · skip
        obtain ⟨y0, y1⟩ := Sn.c2 HR0.out hW
        go_simp
      try simp only [Act.put, List.setIfInBounds_toArray, List.set_cons_zero, List.set_cons_succ]
      refine qc_take (.pointer (some ⟨w.heap.size + 1, 0, none⟩)) (by rfl) (fun W (hW : Below _ _ W) => ?_) ?_
      · skip
        go_simp
      try simp only [Act.put, List.setIfInBounds_toArray, List.set_cons_zero, List.set_cons_succ]
      refine qc_take (.int .u64 y1) (by rfl) (fun W (hW : Below _ _ W) => ?_) ?_
      · skip
        obtain ⟨y0, y1⟩ := Sn.c2 HR1.out hW
        go_simp
      try simp only [Act.put, List.setIfInBounds_toArray, List.set_cons_zero, List.set_cons_succ]
      refine qc_take (.pointer (some ⟨w.heap.size + 1, 1, none⟩)) (by rfl) (fun W (hW : Below _ _ W) => ?_) ?_
      · skip
        go_simp
      try simp only [Act.put, List.setIfInBounds_toArray, List.set_cons_zero, List.set_cons_succ]
      refine qc_take (.int .u64 y2) (by rfl) (fun W (hW : Below _ _ W) => ?_) ?_
      · skip
        obtain ⟨y0, y1⟩ := Sn.c2 HR1.out hW
        go_simp
      try simp only [Act.put, List.setIfInBounds_toArray, List.set_cons_zero, List.set_cons_succ]
      refine qc_take (.int .u64 x1) (by rfl) (fun W (hW : Below _ _ W) => ?_) ?_
      · skip
        go_simp
      try simp only [Act.put, List.setIfInBounds_toArray, List.set_cons_zero, List.set_cons_succ]
      refine qc_take (.int .u64 x2) (by rfl) (fun W (hW : Below _ _ W) => ?_) ?_
      · skip
        go_simp
      try simp only [Act.put, List.setIfInBounds_toArray, List.set_cons_zero, List.set_cons_succ]
      refine qc_take (.int .u64 y1) (by rfl) (fun W (hW : Below _ _ W) => ?_) ?_
      · skip
        go_simp
      try simp only [Act.put, List.setIfInBounds_toArray, List.set_cons_zero, List.set_cons_succ]
      refine qc_take (.int .u64 y2) (by rfl) (fun W (hW : Below _ _ W) => ?_) ?_
      · skip
        go_simp
      try simp only [Act.put, List.setIfInBounds_toArray, List.set_cons_zero, List.set_cons_succ]
      refine wpQuiet_nil ?_
      intro v2 hb
      have hr2 := Sn.bk_below HR2.out hb (Sn.bk_lt HR2.out)
      have hB := Sn.below_next HB.out hb HB.out.size
      clear HB HR2 hb
      have HB := Lib.hid hB
      have HR2 := Lib.hid hr2
      clear hB hr2
      clear HR0 HR1 v
      rename World => v
      go_wp2_with fail
      refine qc_tail (fun W => Below v.heap.size v W) 7 (by kernel_rfl) (by kernel_rfl) (Below.refl _ _).drew ?_
      simp only [List.take_succ_cons, List.take_zero, List.drop_succ_cons, List.drop_zero]
      refine qc_take (.int .u64 x1) (by rfl) (fun W (hW : Below _ _ W) => ?_) ?_
      · skip
        go_simp
      try simp only [Act.put, List.setIfInBounds_toArray, List.set_cons_zero, List.set_cons_succ]
      refine qc_take (.int .u64 y2) (by rfl) (fun W (hW : Below _ _ W) => ?_) ?_
      · skip
        go_simp
      try simp only [Act.put, List.setIfInBounds_toArray, List.set_cons_zero, List.set_cons_succ]
      refine qc_take (.int .u64 (x1 / y2)) (by rfl) (fun W (hW : Below _ _ W) => ?_) ?_
      · skip
        go_simp
        exact Sn.quo_code _ _ (by omega) (by omega) (by omega)
      try simp only [Act.put, List.setIfInBounds_toArray, List.set_cons_zero, List.set_cons_succ]
      refine qc_take (.int .u64 x2) (by rfl) (fun W (hW : Below _ _ W) => ?_) ?_
      · skip
        go_simp
      try simp only [Act.put, List.setIfInBounds_toArray, List.set_cons_zero, List.set_cons_succ]
      refine qc_take (.int .u64 y1) (by rfl) (fun W (hW : Below _ _ W) => ?_) ?_
      · skip
        go_simp
      try simp only [Act.put, List.setIfInBounds_toArray, List.set_cons_zero, List.set_cons_succ]
      refine qc_take (.int .u64 (x2 / y1)) (by rfl) (fun W (hW : Below _ _ W) => ?_) ?_
      · skip
        go_simp
        exact Sn.quo_code _ _ (by omega) (by omega) (by omega)
      try simp only [Act.put, List.setIfInBounds_toArray, List.set_cons_zero, List.set_cons_succ]
      refine qc_take (.agg #[.int .u64 (x1 / y2), .int .u64 (x2 / y1)]) (by rfl) (fun W (hW : Below _ _ W) => ?_) ?_
      · skip
        go_simp
      try simp only [Act.put, List.setIfInBounds_toArray, List.set_cons_zero, List.set_cons_succ]
      refine wpQuiet_nil ?_
      intro v2 hb
      have hr2 := Sn.bk_below HR2.out hb (Sn.bk_lt HR2.out)
      have hB := Sn.below_next HB.out hb HB.out.size
      clear HB HR2 hb
      have HB := Lib.hid hB
      have HR2 := Lib.hid hr2
      clear hB hr2
      clear v
      rename World => v
      go_wp2_with (first | (with_reducible refine Sn.store_sp (.tmp 6) (.tmp 31) (w.heap.size + 1 + 1) #[.int .u64 0, .int .u64 0] _ HR2.out rfl rfl rfl rfl rfl rfl (by simp [Value.oneCell']) ?_))
      refine Sn.ret_sp2 (w.heap.size + 1 + 1) _ _ (Sn.bk_row HR2.out _) rfl rfl rfl rfl rfl ⟨Sn.ret_t _ ?_ ?_, Sn.below_set HB.out (by omega) _⟩
      all_goals first | rfl | omega | (simp only [IntKind.wrap_u64]; omega)
  · subst h
    by_cases g1 : x2 < y1
    · rw [show Sn.parR 12 a (x1, x2) (y1, y2) = ((x1, x2), true) from (if_neg (fun h => absurd h.1 (by decide))).trans (by rw [show Sn.tab 12 a (x1, x2) (y1, y2) = (x1, x2) from if_pos g1])]
      show Calls Try.prog 35 #[.int .i64 12, .agg #[.int .u64 x1, .int .u64 x2], .agg #[.int .u64 y1, .int .u64 y2]] w _
      go_enter Try.func35, Try.ntmps35
      go_upto_region 1 with (fail)
      have hB : Below w.heap.size w (((w.alloc (.cells #[.int .u64 x1, .int .u64 x2] 24)).alloc (.cells #[.int .u64 y1, .int .u64 y2] 24)).alloc (.cells #[.int .u64 0, .int .u64 0] 24)) := ((((Below.refl _ _).alloc (Nat.le_refl _) _).alloc (by simp) _).alloc (by simp; omega) _)
      have hr0 : Sn.Bk (((w.alloc (.cells #[.int .u64 x1, .int .u64 x2] 24)).alloc (.cells #[.int .u64 y1, .int .u64 y2] 24)).alloc (.cells #[.int .u64 0, .int .u64 0] 24)) (w.heap.size) 24 #[.int .u64 x1, .int .u64 x2] := Sn.bk_old (Sn.bk_old (Sn.bk_new _ _ _) _) _
      have hr1 : Sn.Bk (((w.alloc (.cells #[.int .u64 x1, .int .u64 x2] 24)).alloc (.cells #[.int .u64 y1, .int .u64 y2] 24)).alloc (.cells #[.int .u64 0, .int .u64 0] 24)) (w.heap.size + 1) 24 #[.int .u64 y1, .int .u64 y2] := Sn.bk_old (Sn.bk_at (by simp)) _
      have hr2 : Sn.Bk (((w.alloc (.cells #[.int .u64 x1, .int .u64 x2] 24)).alloc (.cells #[.int .u64 y1, .int .u64 y2] 24)).alloc (.cells #[.int .u64 0, .int .u64 0] 24)) (w.heap.size + 1 + 1) 24 #[.int .u64 0, .int .u64 0] := Sn.bk_at (by simp)
      generalize (((w.alloc (.cells #[.int .u64 x1, .int .u64 x2] 24)).alloc (.cells #[.int .u64 y1, .int .u64 y2] 24)).alloc (.cells #[.int .u64 0, .int .u64 0] 24)) = v at *
      have HB := Lib.hid hB
      have HR0 := Lib.hid hr0
      have HR1 := Lib.hid hr1
      have HR2 := Lib.hid hr2
      clear hB hr0 hr1 hr2
      refine qc_all (fun W => Below v.heap.size v W) (by kernel_rfl) (by kernel_rfl) (Below.refl _ _).drew ?_
      refine qc_take (.pointer (some ⟨w.heap.size, 0, none⟩)) (by rfl) (fun W (hW : Below _ _ W) => ?_) ?_
      · skip
        go_simp
      try simp only [Act.put, List.setIfInBounds_toArray, List.set_cons_zero, List.set_cons_succ]
      refine qc_take (.int .u64 x1) (by rfl) (fun W (hW : Below _ _ W) => ?_) ?_
      · skip
        obtain ⟨y0, y1⟩ := Sn.c2 HR0.out hW
        go_simp
      try simp only [Act.put, List.setIfInBounds_toArray, List.set_cons_zero, List.set_cons_succ]
      refine qc_take (.pointer (some ⟨w.heap.size, 1, none⟩)) (by rfl) (fun W (hW : Below _ _ W) => ?_) ?_
      · skip
        go_simp
      try simp only [Act.put, List.setIfInBounds_toArray, List.set_cons_zero, List.set_cons_succ]
      refine qc_take (.int .u64 x2) (by rfl) (fun W (hW : Below _ _ W) => ?_) ?_
      · skip
        obtain ⟨y0, y1⟩ := Sn.c2 HR0.out hW
        go_simp
      try simp only [Act.put, List.setIfInBounds_toArray, List.set_cons_zero, List.set_cons_succ]
      refine qc_take (.pointer (some ⟨w.heap.size + 1, 0, none⟩)) (by rfl) (fun W (hW : Below _ _ W) => ?_) ?_
      · skip
        go_simp
      try simp only [Act.put, List.setIfInBounds_toArray, List.set_cons_zero, List.set_cons_succ]
      refine qc_take (.int .u64 y1) (by rfl) (fun W (hW : Below _ _ W) => ?_) ?_
      · skip
        obtain ⟨y0, y1⟩ := Sn.c2 HR1.out hW
        go_simp
      try simp only [Act.put, List.setIfInBounds_toArray, List.set_cons_zero, List.set_cons_succ]
      refine qc_take (.pointer (some ⟨w.heap.size + 1, 1, none⟩)) (by rfl) (fun W (hW : Below _ _ W) => ?_) ?_
      · skip
        go_simp
      try simp only [Act.put, List.setIfInBounds_toArray, List.set_cons_zero, List.set_cons_succ]
      refine qc_take (.int .u64 y2) (by rfl) (fun W (hW : Below _ _ W) => ?_) ?_
      · skip
        obtain ⟨y0, y1⟩ := Sn.c2 HR1.out hW
        go_simp
      try simp only [Act.put, List.setIfInBounds_toArray, List.set_cons_zero, List.set_cons_succ]
      refine qc_take (.int .u64 x1) (by rfl) (fun W (hW : Below _ _ W) => ?_) ?_
      · skip
        go_simp
      try simp only [Act.put, List.setIfInBounds_toArray, List.set_cons_zero, List.set_cons_succ]
      refine qc_take (.int .u64 x2) (by rfl) (fun W (hW : Below _ _ W) => ?_) ?_
      · skip
        go_simp
      try simp only [Act.put, List.setIfInBounds_toArray, List.set_cons_zero, List.set_cons_succ]
      refine qc_take (.int .u64 y1) (by rfl) (fun W (hW : Below _ _ W) => ?_) ?_
      · skip
        go_simp
      try simp only [Act.put, List.setIfInBounds_toArray, List.set_cons_zero, List.set_cons_succ]
      refine qc_take (.int .u64 y2) (by rfl) (fun W (hW : Below _ _ W) => ?_) ?_
      · skip
        go_simp
      try simp only [Act.put, List.setIfInBounds_toArray, List.set_cons_zero, List.set_cons_succ]
      refine wpQuiet_nil ?_
      intro v2 hb
      have hr0 := Sn.bk_below HR0.out hb (Sn.bk_lt HR0.out)
      have hr2 := Sn.bk_below HR2.out hb (Sn.bk_lt HR2.out)
      have hB := Sn.below_next HB.out hb HB.out.size
      clear HB HR0 HR2 hb
      have HB := Lib.hid hB
      have HR0 := Lib.hid hr0
      have HR2 := Lib.hid hr2
      clear hB hr0 hr2
      clear HR1 v
      rename World => v
      go_wp2_with (first | (with_reducible refine Sn.load_sp (.tmp 4) (w.heap.size) #[.int .u64 x1, .int .u64 x2] HR0.out rfl rfl rfl rfl ?_) | (with_reducible refine Sn.store_sp (.tmp 6) (.tmp 37) (w.heap.size + 1 + 1) #[.int .u64 0, .int .u64 0] _ HR2.out rfl rfl rfl rfl rfl rfl (by simp [Value.oneCell']) ?_))
      refine Sn.ret_sp2 (w.heap.size + 1 + 1) _ _ (Sn.bk_row HR2.out _) rfl rfl rfl rfl rfl ⟨Sn.ret_t _ ?_ ?_, Sn.below_set HB.out (by omega) _⟩
      all_goals first | rfl | omega | (simp only [IntKind.wrap_u64]; omega)
    · by_cases g2 : y1 = 0
      · subst g2
        rw [show Sn.parR 12 a (x1, x2) (0, y2) = ((0, x2), true) from (if_neg (fun h => absurd h.1 (by decide))).trans (by rw [show Sn.tab 12 a (x1, x2) (0, y2) = (0, x2) from (if_neg g1).trans (if_pos rfl)])]
        show Calls Try.prog 35 #[.int .i64 12, .agg #[.int .u64 x1, .int .u64 x2], .agg #[.int .u64 0, .int .u64 y2]] w _
        go_enter Try.func35, Try.ntmps35
        go_upto_region 1 with (fail)
        have hB : Below w.heap.size w (((w.alloc (.cells #[.int .u64 x1, .int .u64 x2] 24)).alloc (.cells #[.int .u64 0, .int .u64 y2] 24)).alloc (.cells #[.int .u64 0, .int .u64 0] 24)) := ((((Below.refl _ _).alloc (Nat.le_refl _) _).alloc (by simp) _).alloc (by simp; omega) _)
        have hr0 : Sn.Bk (((w.alloc (.cells #[.int .u64 x1, .int .u64 x2] 24)).alloc (.cells #[.int .u64 0, .int .u64 y2] 24)).alloc (.cells #[.int .u64 0, .int .u64 0] 24)) (w.heap.size) 24 #[.int .u64 x1, .int .u64 x2] := Sn.bk_old (Sn.bk_old (Sn.bk_new _ _ _) _) _
        have hr1 : Sn.Bk (((w.alloc (.cells #[.int .u64 x1, .int .u64 x2] 24)).alloc (.cells #[.int .u64 0, .int .u64 y2] 24)).alloc (.cells #[.int .u64 0, .int .u64 0] 24)) (w.heap.size + 1) 24 #[.int .u64 0, .int .u64 y2] := Sn.bk_old (Sn.bk_at (by simp)) _
        have hr2 : Sn.Bk (((w.alloc (.cells #[.int .u64 x1, .int .u64 x2] 24)).alloc (.cells #[.int .u64 0, .int .u64 y2] 24)).alloc (.cells #[.int .u64 0, .int .u64 0] 24)) (w.heap.size + 1 + 1) 24 #[.int .u64 0, .int .u64 0] := Sn.bk_at (by simp)
        generalize (((w.alloc (.cells #[.int .u64 x1, .int .u64 x2] 24)).alloc (.cells #[.int .u64 0, .int .u64 y2] 24)).alloc (.cells #[.int .u64 0, .int .u64 0] 24)) = v at *
        have HB := Lib.hid hB
        have HR0 := Lib.hid hr0
        have HR1 := Lib.hid hr1
        have HR2 := Lib.hid hr2
        clear hB hr0 hr1 hr2
        refine qc_all (fun W => Below v.heap.size v W) (by kernel_rfl) (by kernel_rfl) (Below.refl _ _).drew ?_
        refine qc_take (.pointer (some ⟨w.heap.size, 0, none⟩)) (by rfl) (fun W (hW : Below _ _ W) => ?_) ?_
        · skip
          go_simp
        try simp only [Act.put, List.setIfInBounds_toArray, List.set_cons_zero, List.set_cons_succ]
        refine qc_take (.int .u64 x1) (by rfl) (fun W (hW : Below _ _ W) => ?_) ?_
        · skip
          obtain ⟨y0, y1⟩ := Sn.c2 HR0.out hW
          go_simp
        try simp only [Act.put, List.setIfInBounds_toArray, List.set_cons_zero, List.set_cons_succ]
        refine qc_take (.pointer (some ⟨w.heap.size, 1, none⟩)) (by rfl) (fun W (hW : Below _ _ W) => ?_) ?_
        · skip
          go_simp
        try simp only [Act.put, List.setIfInBounds_toArray, List.set_cons_zero, List.set_cons_succ]
        refine qc_take (.int .u64 x2) (by rfl) (fun W (hW : Below _ _ W) => ?_) ?_
        · skip
          obtain ⟨y0, y1⟩ := Sn.c2 HR0.out hW
          go_simp
        try simp only [Act.put, List.setIfInBounds_toArray, List.set_cons_zero, List.set_cons_succ]
        refine qc_take (.pointer (some ⟨w.heap.size + 1, 0, none⟩)) (by rfl) (fun W (hW : Below _ _ W) => ?_) ?_
        · skip
          go_simp
        try simp only [Act.put, List.setIfInBounds_toArray, List.set_cons_zero, List.set_cons_succ]
        refine qc_take (.int .u64 0) (by rfl) (fun W (hW : Below _ _ W) => ?_) ?_
        · skip
          obtain ⟨y0, y1⟩ := Sn.c2 HR1.out hW
          go_simp
        try simp only [Act.put, List.setIfInBounds_toArray, List.set_cons_zero, List.set_cons_succ]
        refine qc_take (.pointer (some ⟨w.heap.size + 1, 1, none⟩)) (by rfl) (fun W (hW : Below _ _ W) => ?_) ?_
        · skip
          go_simp
        try simp only [Act.put, List.setIfInBounds_toArray, List.set_cons_zero, List.set_cons_succ]
        refine qc_take (.int .u64 y2) (by rfl) (fun W (hW : Below _ _ W) => ?_) ?_
        · skip
          obtain ⟨y0, y1⟩ := Sn.c2 HR1.out hW
          go_simp
        try simp only [Act.put, List.setIfInBounds_toArray, List.set_cons_zero, List.set_cons_succ]
        refine qc_take (.int .u64 x1) (by rfl) (fun W (hW : Below _ _ W) => ?_) ?_
        · skip
          go_simp
        try simp only [Act.put, List.setIfInBounds_toArray, List.set_cons_zero, List.set_cons_succ]
        refine qc_take (.int .u64 x2) (by rfl) (fun W (hW : Below _ _ W) => ?_) ?_
        · skip
          go_simp
        try simp only [Act.put, List.setIfInBounds_toArray, List.set_cons_zero, List.set_cons_succ]
        refine qc_take (.int .u64 0) (by rfl) (fun W (hW : Below _ _ W) => ?_) ?_
        · skip
          go_simp
        try simp only [Act.put, List.setIfInBounds_toArray, List.set_cons_zero, List.set_cons_succ]
        refine qc_take (.int .u64 y2) (by rfl) (fun W (hW : Below _ _ W) => ?_) ?_
        · skip
          go_simp
        try simp only [Act.put, List.setIfInBounds_toArray, List.set_cons_zero, List.set_cons_succ]
        refine wpQuiet_nil ?_
        intro v2 hb
        have hr2 := Sn.bk_below HR2.out hb (Sn.bk_lt HR2.out)
        have hB := Sn.below_next HB.out hb HB.out.size
        clear HB HR2 hb
        have HB := Lib.hid hB
        have HR2 := Lib.hid hr2
        clear hB hr2
        clear HR0 HR1 v
        rename World => v
        go_wp2_with (first | (with_reducible refine Sn.store_sp (.tmp 6) (.tmp 46) (w.heap.size + 1 + 1) #[.int .u64 0, .int .u64 0] _ HR2.out rfl rfl rfl rfl rfl rfl (by simp [Value.oneCell']) ?_))
        refine Sn.ret_sp2 (w.heap.size + 1 + 1) _ _ (Sn.bk_row HR2.out _) rfl rfl rfl rfl rfl ⟨Sn.ret_t _ ?_ ?_, Sn.below_set HB.out (by omega) _⟩
        all_goals first | rfl | omega | (simp only [IntKind.wrap_u64]; omega)
      · have d0 : (y1 != 0) = true := by simpa using g2
        rw [show Sn.parR 12 a (x1, x2) (y1, y2) = ((0, min x2 (y2 - 1)), true) from (if_neg (fun h => absurd h.1 (by decide))).trans (by rw [show Sn.tab 12 a (x1, x2) (y1, y2) = (0, min x2 (y2 - 1)) from (if_neg g1).trans (if_neg g2)])]
        show Calls Try.prog 35 #[.int .i64 12, .agg #[.int .u64 x1, .int .u64 x2], .agg #[.int .u64 y1, .int .u64 y2]] w _
        go_enter Try.func35, Try.ntmps35
        go_upto_region 1 with (fail)
        have hB : Below w.heap.size w (((w.alloc (.cells #[.int .u64 x1, .int .u64 x2] 24)).alloc (.cells #[.int .u64 y1, .int .u64 y2] 24)).alloc (.cells #[.int .u64 0, .int .u64 0] 24)) := ((((Below.refl _ _).alloc (Nat.le_refl _) _).alloc (by simp) _).alloc (by simp; omega) _)
        have hr0 : Sn.Bk (((w.alloc (.cells #[.int .u64 x1, .int .u64 x2] 24)).alloc (.cells #[.int .u64 y1, .int .u64 y2] 24)).alloc (.cells #[.int .u64 0, .int .u64 0] 24)) (w.heap.size) 24 #[.int .u64 x1, .int .u64 x2] := Sn.bk_old (Sn.bk_old (Sn.bk_new _ _ _) _) _
        have hr1 : Sn.Bk (((w.alloc (.cells #[.int .u64 x1, .int .u64 x2] 24)).alloc (.cells #[.int .u64 y1, .int .u64 y2] 24)).alloc (.cells #[.int .u64 0, .int .u64 0] 24)) (w.heap.size + 1) 24 #[.int .u64 y1, .int .u64 y2] := Sn.bk_old (Sn.bk_at (by simp)) _
        have hr2 : Sn.Bk (((w.alloc (.cells #[.int .u64 x1, .int .u64 x2] 24)).alloc (.cells #[.int .u64 y1, .int .u64 y2] 24)).alloc (.cells #[.int .u64 0, .int .u64 0] 24)) (w.heap.size + 1 + 1) 24 #[.int .u64 0, .int .u64 0] := Sn.bk_at (by simp)
        generalize (((w.alloc (.cells #[.int .u64 x1, .int .u64 x2] 24)).alloc (.cells #[.int .u64 y1, .int .u64 y2] 24)).alloc (.cells #[.int .u64 0, .int .u64 0] 24)) = v at *
        have HB := Lib.hid hB
        have HR0 := Lib.hid hr0
        have HR1 := Lib.hid hr1
        have HR2 := Lib.hid hr2
        clear hB hr0 hr1 hr2
        refine qc_all (fun W => Below v.heap.size v W) (by kernel_rfl) (by kernel_rfl) (Below.refl _ _).drew ?_
        refine qc_take (.pointer (some ⟨w.heap.size, 0, none⟩)) (by rfl) (fun W (hW : Below _ _ W) => ?_) ?_
        · skip
          go_simp
        try simp only [Act.put, List.setIfInBounds_toArray, List.set_cons_zero, List.set_cons_succ]
        refine qc_take (.int .u64 x1) (by rfl) (fun W (hW : Below _ _ W) => ?_) ?_
        · skip
          obtain ⟨y0, y1⟩ := Sn.c2 HR0.out hW
          go_simp
        try simp only [Act.put, List.setIfInBounds_toArray, List.set_cons_zero, List.set_cons_succ]
        refine qc_take (.pointer (some ⟨w.heap.size, 1, none⟩)) (by rfl) (fun W (hW : Below _ _ W) => ?_) ?_
        · skip
          go_simp
        try simp only [Act.put, List.setIfInBounds_toArray, List.set_cons_zero, List.set_cons_succ]
        refine qc_take (.int .u64 x2) (by rfl) (fun W (hW : Below _ _ W) => ?_) ?_
        · skip
          obtain ⟨y0, y1⟩ := Sn.c2 HR0.out hW
          go_simp
        try simp only [Act.put, List.setIfInBounds_toArray, List.set_cons_zero, List.set_cons_succ]
        refine qc_take (.pointer (some ⟨w.heap.size + 1, 0, none⟩)) (by rfl) (fun W (hW : Below _ _ W) => ?_) ?_
        · skip
          go_simp
        try simp only [Act.put, List.setIfInBounds_toArray, List.set_cons_zero, List.set_cons_succ]
        refine qc_take (.int .u64 y1) (by rfl) (fun W (hW : Below _ _ W) => ?_) ?_
        · skip
          obtain ⟨y0, y1⟩ := Sn.c2 HR1.out hW
          go_simp
        try simp only [Act.put, List.setIfInBounds_toArray, List.set_cons_zero, List.set_cons_succ]
        refine qc_take (.pointer (some ⟨w.heap.size + 1, 1, none⟩)) (by rfl) (fun W (hW : Below _ _ W) => ?_) ?_
        · skip
          go_simp
        try simp only [Act.put, List.setIfInBounds_toArray, List.set_cons_zero, List.set_cons_succ]
        refine qc_take (.int .u64 y2) (by rfl) (fun W (hW : Below _ _ W) => ?_) ?_
        · skip
          obtain ⟨y0, y1⟩ := Sn.c2 HR1.out hW
          go_simp
        try simp only [Act.put, List.setIfInBounds_toArray, List.set_cons_zero, List.set_cons_succ]
        refine qc_take (.int .u64 x1) (by rfl) (fun W (hW : Below _ _ W) => ?_) ?_
        · skip
          go_simp
        try simp only [Act.put, List.setIfInBounds_toArray, List.set_cons_zero, List.set_cons_succ]
        refine qc_take (.int .u64 x2) (by rfl) (fun W (hW : Below _ _ W) => ?_) ?_
        · skip
          go_simp
        try simp only [Act.put, List.setIfInBounds_toArray, List.set_cons_zero, List.set_cons_succ]
        refine qc_take (.int .u64 y1) (by rfl) (fun W (hW : Below _ _ W) => ?_) ?_
        · skip
          go_simp
        try simp only [Act.put, List.setIfInBounds_toArray, List.set_cons_zero, List.set_cons_succ]
        refine qc_take (.int .u64 y2) (by rfl) (fun W (hW : Below _ _ W) => ?_) ?_
        · skip
          go_simp
        try simp only [Act.put, List.setIfInBounds_toArray, List.set_cons_zero, List.set_cons_succ]
        refine wpQuiet_nil ?_
        intro v2 hb
        have hr2 := Sn.bk_below HR2.out hb (Sn.bk_lt HR2.out)
        have hB := Sn.below_next HB.out hb HB.out.size
        clear HB HR2 hb
        have HB := Lib.hid hB
        have HR2 := Lib.hid hr2
        clear hB hr2
        clear HR0 HR1 v
        rename World => v
        go_wp2_with (first | (go_at_call 39; refine (rsmall_any _ _ _).mono ?_; rintro e w9 ⟨rfl, rfl⟩) | (with_reducible refine Sn.store_sp (.tmp 6) (.tmp 44) (w.heap.size + 1 + 1) #[.int .u64 0, .int .u64 0] _ HR2.out rfl rfl rfl rfl rfl rfl (by simp [Value.oneCell']) ?_))
        refine Sn.ret_sp2 (w.heap.size + 1 + 1) _ _ (Sn.bk_row HR2.out _) rfl rfl rfl rfl rfl ⟨Sn.ret_t _ ?_ ?_, Sn.below_set HB.out (by omega) _⟩
        all_goals first | rfl | omega | (simp only [IntKind.wrap_u64]; omega)
  · subst h
    rw [show Sn.parR 13 a (x1, x2) (y1, y2) = ((0, min x2 y2), true) from rfl]
    show Calls Try.prog 35 #[.int .i64 13, .agg #[.int .u64 x1, .int .u64 x2], .agg #[.int .u64 y1, .int .u64 y2]] w _
    go_enter Try.func35, Try.ntmps35
    go_upto_region 1 with (fail)
    have hB : Below w.heap.size w (((w.alloc (.cells #[.int .u64 x1, .int .u64 x2] 24)).alloc (.cells #[.int .u64 y1, .int .u64 y2] 24)).alloc (.cells #[.int .u64 0, .int .u64 0] 24)) := ((((Below.refl _ _).alloc (Nat.le_refl _) _).alloc (by simp) _).alloc (by simp; omega) _)
    have hr0 : Sn.Bk (((w.alloc (.cells #[.int .u64 x1, .int .u64 x2] 24)).alloc (.cells #[.int .u64 y1, .int .u64 y2] 24)).alloc (.cells #[.int .u64 0, .int .u64 0] 24)) (w.heap.size) 24 #[.int .u64 x1, .int .u64 x2] := Sn.bk_old (Sn.bk_old (Sn.bk_new _ _ _) _) _
    have hr1 : Sn.Bk (((w.alloc (.cells #[.int .u64 x1, .int .u64 x2] 24)).alloc (.cells #[.int .u64 y1, .int .u64 y2] 24)).alloc (.cells #[.int .u64 0, .int .u64 0] 24)) (w.heap.size + 1) 24 #[.int .u64 y1, .int .u64 y2] := Sn.bk_old (Sn.bk_at (by simp)) _
    have hr2 : Sn.Bk (((w.alloc (.cells #[.int .u64 x1, .int .u64 x2] 24)).alloc (.cells #[.int .u64 y1, .int .u64 y2] 24)).alloc (.cells #[.int .u64 0, .int .u64 0] 24)) (w.heap.size + 1 + 1) 24 #[.int .u64 0, .int .u64 0] := Sn.bk_at (by simp)
    generalize (((w.alloc (.cells #[.int .u64 x1, .int .u64 x2] 24)).alloc (.cells #[.int .u64 y1, .int .u64 y2] 24)).alloc (.cells #[.int .u64 0, .int .u64 0] 24)) = v at *
    have HB := Lib.hid hB
    have HR0 := Lib.hid hr0
    have HR1 := Lib.hid hr1
    have HR2 := Lib.hid hr2
    clear hB hr0 hr1 hr2
    refine qc_all (fun W => Below v.heap.size v W) (by kernel_rfl) (by kernel_rfl) (Below.refl _ _).drew ?_
    refine qc_take (.pointer (some ⟨w.heap.size, 0, none⟩)) (by rfl) (fun W (hW : Below _ _ W) => ?_) ?_
    · skip
      go_simp
    try simp only [Act.put, List.setIfInBounds_toArray, List.set_cons_zero, List.set_cons_succ]
    refine qc_take (.int .u64 x1) (by rfl) (fun W (hW : Below _ _ W) => ?_) ?_
    · skip
      obtain ⟨y0, y1⟩ := Sn.c2 HR0.out hW
      go_simp
    try simp only [Act.put, List.setIfInBounds_toArray, List.set_cons_zero, List.set_cons_succ]
    refine qc_take (.pointer (some ⟨w.heap.size, 1, none⟩)) (by rfl) (fun W (hW : Below _ _ W) => ?_) ?_
    · skip
      go_simp
    try simp only [Act.put, List.setIfInBounds_toArray, List.set_cons_zero, List.set_cons_succ]
    refine qc_take (.int .u64 x2) (by rfl) (fun W (hW : Below _ _ W) => ?_) ?_
    · skip
      obtain ⟨y0, y1⟩ := Sn.c2 HR0.out hW
      go_simp
    try simp only [Act.put, List.setIfInBounds_toArray, List.set_cons_zero, List.set_cons_succ]
    refine qc_take (.pointer (some ⟨w.heap.size + 1, 0, none⟩)) (by rfl) (fun W (hW : Below _ _ W) => ?_) ?_
    · skip
      go_simp
    try simp only [Act.put, List.setIfInBounds_toArray, List.set_cons_zero, List.set_cons_succ]
    refine qc_take (.int .u64 y1) (by rfl) (fun W (hW : Below _ _ W) => ?_) ?_
    · skip
      obtain ⟨y0, y1⟩ := Sn.c2 HR1.out hW
      go_simp
    try simp only [Act.put, List.setIfInBounds_toArray, List.set_cons_zero, List.set_cons_succ]
    refine qc_take (.pointer (some ⟨w.heap.size + 1, 1, none⟩)) (by rfl) (fun W (hW : Below _ _ W) => ?_) ?_
    · skip
      go_simp
    try simp only [Act.put, List.setIfInBounds_toArray, List.set_cons_zero, List.set_cons_succ]
    refine qc_take (.int .u64 y2) (by rfl) (fun W (hW : Below _ _ W) => ?_) ?_
    · skip
      obtain ⟨y0, y1⟩ := Sn.c2 HR1.out hW
      go_simp
    try simp only [Act.put, List.setIfInBounds_toArray, List.set_cons_zero, List.set_cons_succ]
    refine qc_take (.int .u64 x1) (by rfl) (fun W (hW : Below _ _ W) => ?_) ?_
    · skip
      go_simp
    try simp only [Act.put, List.setIfInBounds_toArray, List.set_cons_zero, List.set_cons_succ]
    refine qc_take (.int .u64 x2) (by rfl) (fun W (hW : Below _ _ W) => ?_) ?_
    · skip
      go_simp
    try simp only [Act.put, List.setIfInBounds_toArray, List.set_cons_zero, List.set_cons_succ]
    refine qc_take (.int .u64 y1) (by rfl) (fun W (hW : Below _ _ W) => ?_) ?_
    · skip
      go_simp
    try simp only [Act.put, List.setIfInBounds_toArray, List.set_cons_zero, List.set_cons_succ]
    refine qc_take (.int .u64 y2) (by rfl) (fun W (hW : Below _ _ W) => ?_) ?_
    · skip
      go_simp
    try simp only [Act.put, List.setIfInBounds_toArray, List.set_cons_zero, List.set_cons_succ]
    refine wpQuiet_nil ?_
    intro v2 hb
    have hr2 := Sn.bk_below HR2.out hb (Sn.bk_lt HR2.out)
    have hB := Sn.below_next HB.out hb HB.out.size
    clear HB HR2 hb
    have HB := Lib.hid hB
    have HR2 := Lib.hid hr2
    clear hB hr2
    clear HR0 HR1 v
    rename World => v
    go_wp2_with (first | (go_at_call 39; refine (rsmall_any _ _ _).mono ?_; rintro e w9 ⟨rfl, rfl⟩) | (with_reducible refine Sn.store_sp (.tmp 6) (.tmp 52) (w.heap.size + 1 + 1) #[.int .u64 0, .int .u64 0] _ HR2.out rfl rfl rfl rfl rfl rfl (by simp [Value.oneCell']) ?_))
    refine Sn.ret_sp2 (w.heap.size + 1 + 1) _ _ (Sn.bk_row HR2.out _) rfl rfl rfl rfl rfl ⟨Sn.ret_t _ ?_ ?_, Sn.below_set HB.out (by omega) _⟩
    all_goals first | rfl | omega | (simp only [IntKind.wrap_u64]; omega)
  · subst h
    rw [show Sn.parR 14 a (x1, x2) (y1, y2) = ((max x1 y1, Sn.ones (max x2 y2)), true) from rfl]
    show Calls Try.prog 35 #[.int .i64 14, .agg #[.int .u64 x1, .int .u64 x2], .agg #[.int .u64 y1, .int .u64 y2]] w _
    go_enter Try.func35, Try.ntmps35
    go_upto_region 1 with (fail)
    have hB : Below w.heap.size w (((w.alloc (.cells #[.int .u64 x1, .int .u64 x2] 24)).alloc (.cells #[.int .u64 y1, .int .u64 y2] 24)).alloc (.cells #[.int .u64 0, .int .u64 0] 24)) := ((((Below.refl _ _).alloc (Nat.le_refl _) _).alloc (by simp) _).alloc (by simp; omega) _)
    have hr0 : Sn.Bk (((w.alloc (.cells #[.int .u64 x1, .int .u64 x2] 24)).alloc (.cells #[.int .u64 y1, .int .u64 y2] 24)).alloc (.cells #[.int .u64 0, .int .u64 0] 24)) (w.heap.size) 24 #[.int .u64 x1, .int .u64 x2] := Sn.bk_old (Sn.bk_old (Sn.bk_new _ _ _) _) _
    have hr1 : Sn.Bk (((w.alloc (.cells #[.int .u64 x1, .int .u64 x2] 24)).alloc (.cells #[.int .u64 y1, .int .u64 y2] 24)).alloc (.cells #[.int .u64 0, .int .u64 0] 24)) (w.heap.size + 1) 24 #[.int .u64 y1, .int .u64 y2] := Sn.bk_old (Sn.bk_at (by simp)) _
    have hr2 : Sn.Bk (((w.alloc (.cells #[.int .u64 x1, .int .u64 x2] 24)).alloc (.cells #[.int .u64 y1, .int .u64 y2] 24)).alloc (.cells #[.int .u64 0, .int .u64 0] 24)) (w.heap.size + 1 + 1) 24 #[.int .u64 0, .int .u64 0] := Sn.bk_at (by simp)
    generalize (((w.alloc (.cells #[.int .u64 x1, .int .u64 x2] 24)).alloc (.cells #[.int .u64 y1, .int .u64 y2] 24)).alloc (.cells #[.int .u64 0, .int .u64 0] 24)) = v at *
    have HB := Lib.hid hB
    have HR0 := Lib.hid hr0
    have HR1 := Lib.hid hr1
    have HR2 := Lib.hid hr2
    clear hB hr0 hr1 hr2
    refine qc_all (fun W => Below v.heap.size v W) (by kernel_rfl) (by kernel_rfl) (Below.refl _ _).drew ?_
    refine qc_take (.pointer (some ⟨w.heap.size, 0, none⟩)) (by rfl) (fun W (hW : Below _ _ W) => ?_) ?_
    · skip
      go_simp
    try simp only [Act.put, List.setIfInBounds_toArray, List.set_cons_zero, List.set_cons_succ]
    refine qc_take (.int .u64 x1) (by rfl) (fun W (hW : Below _ _ W) => ?_) ?_
    · skip
      obtain ⟨y0, y1⟩ := Sn.c2 HR0.out hW
      go_simp
    try simp only [Act.put, List.setIfInBounds_toArray, List.set_cons_zero, List.set_cons_succ]
    refine qc_take (.pointer (some ⟨w.heap.size, 1, none⟩)) (by rfl) (fun W (hW : Below _ _ W) => ?_) ?_
    · skip
      go_simp
    try simp only [Act.put, List.setIfInBounds_toArray, List.set_cons_zero, List.set_cons_succ]
    refine qc_take (.int .u64 x2) (by rfl) (fun W (hW : Below _ _ W) => ?_) ?_
    · skip
      obtain ⟨y0, y1⟩ := Sn.c2 HR0.out hW
      go_simp
    try simp only [Act.put, List.setIfInBounds_toArray, List.set_cons_zero, List.set_cons_succ]
    refine qc_take (.pointer (some ⟨w.heap.size + 1, 0, none⟩)) (by rfl) (fun W (hW : Below _ _ W) => ?_) ?_
    · skip
      go_simp
    try simp only [Act.put, List.setIfInBounds_toArray, List.set_cons_zero, List.set_cons_succ]
    refine qc_take (.int .u64 y1) (by rfl) (fun W (hW : Below _ _ W) => ?_) ?_
    · skip
      obtain ⟨y0, y1⟩ := Sn.c2 HR1.out hW
      go_simp
    try simp only [Act.put, List.setIfInBounds_toArray, List.set_cons_zero, List.set_cons_succ]
    refine qc_take (.pointer (some ⟨w.heap.size + 1, 1, none⟩)) (by rfl) (fun W (hW : Below _ _ W) => ?_) ?_
    · skip
      go_simp
    try simp only [Act.put, List.setIfInBounds_toArray, List.set_cons_zero, List.set_cons_succ]
    refine qc_take (.int .u64 y2) (by rfl) (fun W (hW : Below _ _ W) => ?_) ?_
    · skip
      obtain ⟨y0, y1⟩ := Sn.c2 HR1.out hW
      go_simp
    try simp only [Act.put, List.setIfInBounds_toArray, List.set_cons_zero, List.set_cons_succ]
    refine qc_take (.int .u64 x1) (by rfl) (fun W (hW : Below _ _ W) => ?_) ?_
    · skip
      go_simp
    try simp only [Act.put, List.setIfInBounds_toArray, List.set_cons_zero, List.set_cons_succ]
    refine qc_take (.int .u64 x2) (by rfl) (fun W (hW : Below _ _ W) => ?_) ?_
    · skip
      go_simp
    try simp only [Act.put, List.setIfInBounds_toArray, List.set_cons_zero, List.set_cons_succ]
    refine qc_take (.int .u64 y1) (by rfl) (fun W (hW : Below _ _ W) => ?_) ?_
    · skip
      go_simp
    try simp only [Act.put, List.setIfInBounds_toArray, List.set_cons_zero, List.set_cons_succ]
    refine qc_take (.int .u64 y2) (by rfl) (fun W (hW : Below _ _ W) => ?_) ?_
    · skip
      go_simp
    try simp only [Act.put, List.setIfInBounds_toArray, List.set_cons_zero, List.set_cons_succ]
    refine wpQuiet_nil ?_
    intro v2 hb
    have hr2 := Sn.bk_below HR2.out hb (Sn.bk_lt HR2.out)
    have hB := Sn.below_next HB.out hb HB.out.size
    clear HB HR2 hb
    have HB := Lib.hid hB
    have HR2 := Lib.hid hr2
    clear hB hr2
    clear HR0 HR1 v
    rename World => v
    go_wp2_with (first | (go_at_call 38; refine (rgreat_any _ _ _).mono ?_; rintro e w9 ⟨rfl, rfl⟩) | (go_at_call 79; refine (rones_any _ _ (by omega) (by omega) (by omega) (by omega) _).mono ?_; rintro e w9 ⟨rfl, rfl⟩) | (with_reducible refine Sn.store_sp (.tmp 6) (.tmp 61) (w.heap.size + 1 + 1) #[.int .u64 0, .int .u64 0] _ HR2.out rfl rfl rfl rfl rfl rfl (by simp [Value.oneCell']) ?_))
    refine Sn.ret_sp2 (w.heap.size + 1 + 1) _ _ (Sn.bk_row HR2.out _) rfl rfl rfl rfl rfl ⟨Sn.ret_t _ ?_ ?_, Sn.below_set HB.out (by omega) _⟩
    all_goals first | rfl | omega | (simp only [IntKind.wrap_u64]; omega)
  · subst h
    rw [show Sn.parR 15 a (x1, x2) (y1, y2) = ((0, Sn.ones (max x2 y2)), true) from rfl]
    show Calls Try.prog 35 #[.int .i64 15, .agg #[.int .u64 x1, .int .u64 x2], .agg #[.int .u64 y1, .int .u64 y2]] w _
    go_enter Try.func35, Try.ntmps35
    go_upto_region 1 with (fail)
    have hB : Below w.heap.size w (((w.alloc (.cells #[.int .u64 x1, .int .u64 x2] 24)).alloc (.cells #[.int .u64 y1, .int .u64 y2] 24)).alloc (.cells #[.int .u64 0, .int .u64 0] 24)) := ((((Below.refl _ _).alloc (Nat.le_refl _) _).alloc (by simp) _).alloc (by simp; omega) _)
    have hr0 : Sn.Bk (((w.alloc (.cells #[.int .u64 x1, .int .u64 x2] 24)).alloc (.cells #[.int .u64 y1, .int .u64 y2] 24)).alloc (.cells #[.int .u64 0, .int .u64 0] 24)) (w.heap.size) 24 #[.int .u64 x1, .int .u64 x2] := Sn.bk_old (Sn.bk_old (Sn.bk_new _ _ _) _) _
    have hr1 : Sn.Bk (((w.alloc (.cells #[.int .u64 x1, .int .u64 x2] 24)).alloc (.cells #[.int .u64 y1, .int .u64 y2] 24)).alloc (.cells #[.int .u64 0, .int .u64 0] 24)) (w.heap.size + 1) 24 #[.int .u64 y1, .int .u64 y2] := Sn.bk_old (Sn.bk_at (by simp)) _
    have hr2 : Sn.Bk (((w.alloc (.cells #[.int .u64 x1, .int .u64 x2] 24)).alloc (.cells #[.int .u64 y1, .int .u64 y2] 24)).alloc (.cells #[.int .u64 0, .int .u64 0] 24)) (w.heap.size + 1 + 1) 24 #[.int .u64 0, .int .u64 0] := Sn.bk_at (by simp)
    generalize (((w.alloc (.cells #[.int .u64 x1, .int .u64 x2] 24)).alloc (.cells #[.int .u64 y1, .int .u64 y2] 24)).alloc (.cells #[.int .u64 0, .int .u64 0] 24)) = v at *
    have HB := Lib.hid hB
    have HR0 := Lib.hid hr0
    have HR1 := Lib.hid hr1
    have HR2 := Lib.hid hr2
    clear hB hr0 hr1 hr2
    refine qc_all (fun W => Below v.heap.size v W) (by kernel_rfl) (by kernel_rfl) (Below.refl _ _).drew ?_
    refine qc_take (.pointer (some ⟨w.heap.size, 0, none⟩)) (by rfl) (fun W (hW : Below _ _ W) => ?_) ?_
    · skip
      go_simp
    try simp only [Act.put, List.setIfInBounds_toArray, List.set_cons_zero, List.set_cons_succ]
    refine qc_take (.int .u64 x1) (by rfl) (fun W (hW : Below _ _ W) => ?_) ?_
    · skip
      obtain ⟨y0, y1⟩ := Sn.c2 HR0.out hW
      go_simp
    try simp only [Act.put, List.setIfInBounds_toArray, List.set_cons_zero, List.set_cons_succ]
    refine qc_take (.pointer (some ⟨w.heap.size, 1, none⟩)) (by rfl) (fun W (hW : Below _ _ W) => ?_) ?_
    · skip
      go_simp
    try simp only [Act.put, List.setIfInBounds_toArray, List.set_cons_zero, List.set_cons_succ]
    refine qc_take (.int .u64 x2) (by rfl) (fun W (hW : Below _ _ W) => ?_) ?_
    · skip
      obtain ⟨y0, y1⟩ := Sn.c2 HR0.out hW
      go_simp
    try simp only [Act.put, List.setIfInBounds_toArray, List.set_cons_zero, List.set_cons_succ]
    refine qc_take (.pointer (some ⟨w.heap.size + 1, 0, none⟩)) (by rfl) (fun W (hW : Below _ _ W) => ?_) ?_
    · skip
      go_simp
    try simp only [Act.put, List.setIfInBounds_toArray, List.set_cons_zero, List.set_cons_succ]
    refine qc_take (.int .u64 y1) (by rfl) (fun W (hW : Below _ _ W) => ?_) ?_
    · skip
      obtain ⟨y0, y1⟩ := Sn.c2 HR1.out hW
      go_simp
    try simp only [Act.put, List.setIfInBounds_toArray, List.set_cons_zero, List.set_cons_succ]
    refine qc_take (.pointer (some ⟨w.heap.size + 1, 1, none⟩)) (by rfl) (fun W (hW : Below _ _ W) => ?_) ?_
    · skip
      go_simp
    try simp only [Act.put, List.setIfInBounds_toArray, List.set_cons_zero, List.set_cons_succ]
    refine qc_take (.int .u64 y2) (by rfl) (fun W (hW : Below _ _ W) => ?_) ?_
    · skip
      obtain ⟨y0, y1⟩ := Sn.c2 HR1.out hW
      go_simp
    try simp only [Act.put, List.setIfInBounds_toArray, List.set_cons_zero, List.set_cons_succ]
    refine qc_take (.int .u64 x1) (by rfl) (fun W (hW : Below _ _ W) => ?_) ?_
    · skip
      go_simp
    try simp only [Act.put, List.setIfInBounds_toArray, List.set_cons_zero, List.set_cons_succ]
    refine qc_take (.int .u64 x2) (by rfl) (fun W (hW : Below _ _ W) => ?_) ?_
    · skip
      go_simp
    try simp only [Act.put, List.setIfInBounds_toArray, List.set_cons_zero, List.set_cons_succ]
    refine qc_take (.int .u64 y1) (by rfl) (fun W (hW : Below _ _ W) => ?_) ?_
    · skip
      go_simp
    try simp only [Act.put, List.setIfInBounds_toArray, List.set_cons_zero, List.set_cons_succ]
    refine qc_take (.int .u64 y2) (by rfl) (fun W (hW : Below _ _ W) => ?_) ?_
    · skip
      go_simp
    try simp only [Act.put, List.setIfInBounds_toArray, List.set_cons_zero, List.set_cons_succ]
    refine wpQuiet_nil ?_
    intro v2 hb
    have hr2 := Sn.bk_below HR2.out hb (Sn.bk_lt HR2.out)
    have hB := Sn.below_next HB.out hb HB.out.size
    clear HB HR2 hb
    have HB := Lib.hid hB
    have HR2 := Lib.hid hr2
    clear hB hr2
    clear HR0 HR1 v
    rename World => v
    go_wp2_with (first | (go_at_call 79; refine (rones_any _ _ (by omega) (by omega) (by omega) (by omega) _).mono ?_; rintro e w9 ⟨rfl, rfl⟩) | (with_reducible refine Sn.store_sp (.tmp 6) (.tmp 67) (w.heap.size + 1 + 1) #[.int .u64 0, .int .u64 0] _ HR2.out rfl rfl rfl rfl rfl rfl (by simp [Value.oneCell']) ?_))
    refine Sn.ret_sp2 (w.heap.size + 1 + 1) _ _ (Sn.bk_row HR2.out _) rfl rfl rfl rfl rfl ⟨Sn.ret_t _ ?_ ?_, Sn.below_set HB.out (by omega) _⟩
    all_goals first | rfl | omega | (simp only [IntKind.wrap_u64]; omega)


end Go.Proofs.Ytbjckcjfambpoaa
namespace Go.Proofs.Ytbjckcjfambpoaa
set_option linter.unusedSimpArgs false
set_option linter.unusedVariables false
open Go.RowKit Go.Maps
set_option maxRecDepth 100000

theorem Sn.down_val (a x y : Int) (x0 : 0 ≤ x) (x1 : x ≤ Wd.msk a) (y0 : 0 ≤ y) : (if (Wd.wid a : Int) ≤ y then 0 else x / Wd.pw y.toNat) = x / Wd.pw (Wd.sh y) := by
  have hw := Wd.wid_hi a
  split
  · rename_i h
    have h1 : Wd.pw (Wd.wid a) ≤ Wd.pw (Wd.sh y) := Wd.pw_mono (by unfold Wd.sh; omega)
    rw [Int.ediv_eq_zero_of_lt x0 (by unfold Wd.msk at x1; omega)]
  · rename_i h
    rw [show Wd.sh y = y.toNat by unfold Wd.sh; omega]
theorem rdown_w (a x y : Int) (x0 : 0 ≤ x) (x1 : x ≤ Wd.msk a) (y0 : 0 ≤ y) (y1 : y < 18446744073709551616) (w : World) :
    Calls Try.prog 81 #[.int .i64 (Wd.wid a), .int .u64 x, .int .u64 y] w fun e w' => e = .returned (.int .u64 (x / Wd.pw (Wd.sh y))) ∧ w = w' := by
  have hm := Wd.msk_hi a
  have hw := Wd.wid_hi a
  have hl := Wd.wid_lo a
  rw [← Sn.down_val a x y x0 x1 y0]
  obtain ⟨B, rfl⟩ := Int.eq_ofNat_of_zero_le y0
  have h := rdown_any (Wd.wid a) x B (by omega) (by omega) x0 (by omega) (by omega) w
  rw [Int.toNat_natCast]
  exact h
theorem rtwo_w (y : Int) (y0 : 0 ≤ y) (y1 : y < 64) (w : World) :
    Calls Try.prog 80 #[.int .u64 y] w fun e w' => e = .returned (.int .u64 (Wd.pw y.toNat)) ∧ w = w' := by
  obtain ⟨B, rfl⟩ := Int.eq_ofNat_of_zero_le y0
  rw [Int.toNat_natCast]
  exact rtwo_any B (by omega) w
/-- What the reference's shifts tell. -/
def Sn.shiR (op a : Int) (x y : Sn.S) : Sn.S × Bool :=
  if op = 16 then (if y.2 < Wd.wid a ∧ x.2 * Wd.pw y.2.toNat ≤ Wd.msk a then (Sn.tab op a x y, true) else ((0, 0), false))
  else if op = 18 ∧ Wd.msk a / 2 < x.2 then ((0, 0), false) else (Sn.shrT x y, true)

set_option maxHeartbeats 25600000 in
theorem rshifts_any (op a : Int) (x y : Sn.S) (hop : op = 16 ∨ op = 17 ∨ op = 18) (hx : Sn.Ok a x) (hy : Sn.Ok a y) (w : World) :
    Calls Try.prog 36 #[.int .i64 op, .int .i64 (Wd.wid a), .int .u64 (Wd.msk a), Sn.v x, Sn.v y] w fun e w' => e = .returned (.tuple #[Sn.v (Sn.shiR op a x y).1, .bool (Sn.shiR op a x y).2]) ∧ Below w.heap.size w w' := by
  obtain ⟨x1, x2⟩ := x
  obtain ⟨y1, y2⟩ := y
  have hm := Wd.msk_hi a
  have hx2 := hx
  have hy2 := hy
  unfold Sn.Ok at hx2 hy2
  dsimp only at hx2 hy2
  have hw := Wd.wid_hi a
  have hl := Wd.wid_lo a
  have ex10 : 0 ≤ x1 := by omega
  have ex11 : x1 < 18446744073709551616 := by omega
  have ex20 : 0 ≤ x2 := by omega
  have ex21 : x2 < 18446744073709551616 := by omega
  have ey10 : 0 ≤ y1 := by omega
  have ey11 : y1 < 18446744073709551616 := by omega
  have ey20 : 0 ≤ y2 := by omega
  have ey21 : y2 < 18446744073709551616 := by omega
  rcases hop with h | h | h
  · subst h
    by_cases g1 : y2 < Wd.wid a
    · have gp := Wd.pw_pos y2.toNat
      have gq : Wd.pw y2.toNat ≤ Wd.pw 63 := Wd.pw_mono (by omega)
      rw [show Wd.pw 63 = 9223372036854775808 by decide] at gq
      by_cases g2 : x2 * Wd.pw y2.toNat ≤ Wd.msk a
      · have hq : x1 * Wd.pw y1.toNat ≤ x2 * Wd.pw y2.toNat := Sn.mul_mono _ _ _ _ (by omega) (by omega) (Int.le_of_lt (Wd.pw_pos _)) (Wd.pw_mono (by omega))
        have z1 := Int.mul_nonneg (show 0 ≤ x1 by omega) (Int.le_of_lt (Wd.pw_pos y1.toNat))
        have z2 := Int.mul_nonneg (show 0 ≤ x2 by omega) (Int.le_of_lt (Wd.pw_pos y2.toNat))
        have g3 : Wd.pw y2.toNat * x2 ≤ Wd.msk a := by rw [Int.mul_comm]; exact g2
        have hT : Sn.tab 16 a (x1, x2) (y1, y2) = (x1 * Wd.pw y1.toNat, x2 * Wd.pw y2.toNat) := by
          show Sn.shlT a _ _ = _
          unfold Sn.shlT
          dsimp only
          rw [if_pos ⟨g1, g2⟩]
        rw [show Sn.shiR 16 a (x1, x2) (y1, y2) = ((x1 * Wd.pw y1.toNat, x2 * Wd.pw y2.toNat), true) from (if_pos rfl).trans ((if_pos ⟨g1, g2⟩).trans (by rw [hT]))]
        show Calls Try.prog 36 #[.int .i64 16, .int .i64 (Wd.wid a), .int .u64 (Wd.msk a), .agg #[.int .u64 x1, .int .u64 x2], .agg #[.int .u64 y1, .int .u64 y2]] w _
        go_enter Try.func36, Try.ntmps36
        go_upto_region 1 with (fail)
        have hB : Below w.heap.size w (((w.alloc (.cells #[.int .u64 x1, .int .u64 x2] 24)).alloc (.cells #[.int .u64 y1, .int .u64 y2] 24)).alloc (.cells #[.int .u64 0, .int .u64 0] 24)) := ((((Below.refl _ _).alloc (Nat.le_refl _) _).alloc (by simp) _).alloc (by simp; omega) _)
        have hr0 : Sn.Bk (((w.alloc (.cells #[.int .u64 x1, .int .u64 x2] 24)).alloc (.cells #[.int .u64 y1, .int .u64 y2] 24)).alloc (.cells #[.int .u64 0, .int .u64 0] 24)) (w.heap.size) 24 #[.int .u64 x1, .int .u64 x2] := Sn.bk_old (Sn.bk_old (Sn.bk_new _ _ _) _) _
        have hr1 : Sn.Bk (((w.alloc (.cells #[.int .u64 x1, .int .u64 x2] 24)).alloc (.cells #[.int .u64 y1, .int .u64 y2] 24)).alloc (.cells #[.int .u64 0, .int .u64 0] 24)) (w.heap.size + 1) 24 #[.int .u64 y1, .int .u64 y2] := Sn.bk_old (Sn.bk_at (by simp)) _
        have hr2 : Sn.Bk (((w.alloc (.cells #[.int .u64 x1, .int .u64 x2] 24)).alloc (.cells #[.int .u64 y1, .int .u64 y2] 24)).alloc (.cells #[.int .u64 0, .int .u64 0] 24)) (w.heap.size + 1 + 1) 24 #[.int .u64 0, .int .u64 0] := Sn.bk_at (by simp)
        generalize (((w.alloc (.cells #[.int .u64 x1, .int .u64 x2] 24)).alloc (.cells #[.int .u64 y1, .int .u64 y2] 24)).alloc (.cells #[.int .u64 0, .int .u64 0] 24)) = v at *
        have HB := Lib.hid hB
        have HR0 := Lib.hid hr0
        have HR1 := Lib.hid hr1
        have HR2 := Lib.hid hr2
        clear hB hr0 hr1 hr2
        refine qc_all (fun W => Below v.heap.size v W) (by kernel_rfl) (by kernel_rfl) (Below.refl _ _).drew ?_
        refine qc_take (.pointer (some ⟨w.heap.size, 0, none⟩)) (by rfl) (fun W (hW : Below _ _ W) => ?_) ?_
        · skip
          go_simp
        try simp only [Act.put, List.setIfInBounds_toArray, List.set_cons_zero, List.set_cons_succ]
        refine qc_take (.int .u64 x1) (by rfl) (fun W (hW : Below _ _ W) => ?_) ?_
        · skip
          obtain ⟨y0, y1⟩ := Sn.c2 HR0.out hW
          go_simp
        try simp only [Act.put, List.setIfInBounds_toArray, List.set_cons_zero, List.set_cons_succ]
        refine qc_take (.pointer (some ⟨w.heap.size, 1, none⟩)) (by rfl) (fun W (hW : Below _ _ W) => ?_) ?_
        · skip
          go_simp
        try simp only [Act.put, List.setIfInBounds_toArray, List.set_cons_zero, List.set_cons_succ]
        refine qc_take (.int .u64 x2) (by rfl) (fun W (hW : Below _ _ W) => ?_) ?_
        · skip
          obtain ⟨y0, y1⟩ := Sn.c2 HR0.out hW
          go_simp
        try simp only [Act.put, List.setIfInBounds_toArray, List.set_cons_zero, List.set_cons_succ]
        refine qc_take (.pointer (some ⟨w.heap.size + 1, 0, none⟩)) (by rfl) (fun W (hW : Below _ _ W) => ?_) ?_
        · skip
          go_simp
        try simp only [Act.put, List.setIfInBounds_toArray, List.set_cons_zero, List.set_cons_succ]
        refine qc_take (.int .u64 y1) (by rfl) (fun W (hW : Below _ _ W) => ?_) ?_
        · skip
          obtain ⟨y0, y1⟩ := Sn.c2 HR1.out hW
          go_simp
        try simp only [Act.put, List.setIfInBounds_toArray, List.set_cons_zero, List.set_cons_succ]
        refine qc_take (.pointer (some ⟨w.heap.size + 1, 1, none⟩)) (by rfl) (fun W (hW : Below _ _ W) => ?_) ?_
        · skip
          go_simp
        try simp only [Act.put, List.setIfInBounds_toArray, List.set_cons_zero, List.set_cons_succ]
        refine qc_take (.int .u64 y2) (by rfl) (fun W (hW : Below _ _ W) => ?_) ?_
        · skip
          obtain ⟨y0, y1⟩ := Sn.c2 HR1.out hW
          go_simp
        try simp only [Act.put, List.setIfInBounds_toArray, List.set_cons_zero, List.set_cons_succ]
        refine qc_take (.int .u64 x1) (by rfl) (fun W (hW : Below _ _ W) => ?_) ?_
        · skip
          go_simp
        try simp only [Act.put, List.setIfInBounds_toArray, List.set_cons_zero, List.set_cons_succ]
        refine qc_take (.int .u64 x2) (by rfl) (fun W (hW : Below _ _ W) => ?_) ?_
        · skip
          go_simp
        try simp only [Act.put, List.setIfInBounds_toArray, List.set_cons_zero, List.set_cons_succ]
        refine qc_take (.int .u64 y1) (by rfl) (fun W (hW : Below _ _ W) => ?_) ?_
        · skip
          go_simp
        try simp only [Act.put, List.setIfInBounds_toArray, List.set_cons_zero, List.set_cons_succ]
        refine qc_take (.int .u64 y2) (by rfl) (fun W (hW : Below _ _ W) => ?_) ?_
        · skip
          go_simp
        try simp only [Act.put, List.setIfInBounds_toArray, List.set_cons_zero, List.set_cons_succ]
        refine wpQuiet_nil ?_
        intro v2 hb
        have hr2 := Sn.bk_below HR2.out hb (Sn.bk_lt HR2.out)
        have hB := Sn.below_next HB.out hb HB.out.size
        clear HB HR2 hb
        have HB := Lib.hid hB
        have HR2 := Lib.hid hr2
        clear hB hr2
        clear HR0 HR1 v
        rename World => v
        go_wp2_with (first | (go_at_call 80; refine (rtwo_w _ (by omega) (by omega) _).mono ?_; rintro e w9 ⟨rfl, rfl⟩) | (go_at_call 78; refine (rfits_is true (by omega) (by omega) (by omega) (by omega) (decide_eq_true g3) _).mono ?_; rintro e w9 ⟨rfl, rfl⟩) | (with_reducible refine Sn.store_sp (.tmp 10) (.tmp 45) (w.heap.size + 1 + 1) #[.int .u64 0, .int .u64 0] _ HR2.out rfl rfl rfl rfl rfl rfl (by simp [Value.oneCell']) ?_))
        refine Sn.ret_sp2 (w.heap.size + 1 + 1) _ _ (Sn.bk_row HR2.out _) rfl rfl rfl rfl rfl ⟨Sn.ret_t _ ?_ ?_, Sn.below_set HB.out (by omega) _⟩
        all_goals first | rfl | omega | (simp only [IntKind.wrap_u64]; omega)
      · have g3 : ¬ Wd.pw y2.toNat * x2 ≤ Wd.msk a := by rw [Int.mul_comm]; exact g2
        rw [show Sn.shiR 16 a (x1, x2) (y1, y2) = ((0, 0), false) from (if_pos rfl).trans (if_neg (fun h => g2 h.2))]
        show Calls Try.prog 36 #[.int .i64 16, .int .i64 (Wd.wid a), .int .u64 (Wd.msk a), .agg #[.int .u64 x1, .int .u64 x2], .agg #[.int .u64 y1, .int .u64 y2]] w _
        go_enter Try.func36, Try.ntmps36
        go_upto_region 1 with (fail)
        have hB : Below w.heap.size w (((w.alloc (.cells #[.int .u64 x1, .int .u64 x2] 24)).alloc (.cells #[.int .u64 y1, .int .u64 y2] 24)).alloc (.cells #[.int .u64 0, .int .u64 0] 24)) := ((((Below.refl _ _).alloc (Nat.le_refl _) _).alloc (by simp) _).alloc (by simp; omega) _)
        have hr0 : Sn.Bk (((w.alloc (.cells #[.int .u64 x1, .int .u64 x2] 24)).alloc (.cells #[.int .u64 y1, .int .u64 y2] 24)).alloc (.cells #[.int .u64 0, .int .u64 0] 24)) (w.heap.size) 24 #[.int .u64 x1, .int .u64 x2] := Sn.bk_old (Sn.bk_old (Sn.bk_new _ _ _) _) _
        have hr1 : Sn.Bk (((w.alloc (.cells #[.int .u64 x1, .int .u64 x2] 24)).alloc (.cells #[.int .u64 y1, .int .u64 y2] 24)).alloc (.cells #[.int .u64 0, .int .u64 0] 24)) (w.heap.size + 1) 24 #[.int .u64 y1, .int .u64 y2] := Sn.bk_old (Sn.bk_at (by simp)) _
        have hr2 : Sn.Bk (((w.alloc (.cells #[.int .u64 x1, .int .u64 x2] 24)).alloc (.cells #[.int .u64 y1, .int .u64 y2] 24)).alloc (.cells #[.int .u64 0, .int .u64 0] 24)) (w.heap.size + 1 + 1) 24 #[.int .u64 0, .int .u64 0] := Sn.bk_at (by simp)
        generalize (((w.alloc (.cells #[.int .u64 x1, .int .u64 x2] 24)).alloc (.cells #[.int .u64 y1, .int .u64 y2] 24)).alloc (.cells #[.int .u64 0, .int .u64 0] 24)) = v at *
        have HB := Lib.hid hB
        have HR0 := Lib.hid hr0
        have HR1 := Lib.hid hr1
        have HR2 := Lib.hid hr2
        clear hB hr0 hr1 hr2
        refine qc_all (fun W => Below v.heap.size v W) (by kernel_rfl) (by kernel_rfl) (Below.refl _ _).drew ?_
        refine qc_take (.pointer (some ⟨w.heap.size, 0, none⟩)) (by rfl) (fun W (hW : Below _ _ W) => ?_) ?_
        · skip
          go_simp
        try simp only [Act.put, List.setIfInBounds_toArray, List.set_cons_zero, List.set_cons_succ]
        refine qc_take (.int .u64 x1) (by rfl) (fun W (hW : Below _ _ W) => ?_) ?_
        · skip
          obtain ⟨y0, y1⟩ := Sn.c2 HR0.out hW
          go_simp
        try simp only [Act.put, List.setIfInBounds_toArray, List.set_cons_zero, List.set_cons_succ]
        refine qc_take (.pointer (some ⟨w.heap.size, 1, none⟩)) (by rfl) (fun W (hW : Below _ _ W) => ?_) ?_
        · skip
          go_simp
        try simp only [Act.put, List.setIfInBounds_toArray, List.set_cons_zero, List.set_cons_succ]
        refine qc_take (.int .u64 x2) (by rfl) (fun W (hW : Below _ _ W) => ?_) ?_
        · skip
          obtain ⟨y0, y1⟩ := Sn.c2 HR0.out hW
          go_simp
        try simp only [Act.put, List.setIfInBounds_toArray, List.set_cons_zero, List.set_cons_succ]
        refine qc_take (.pointer (some ⟨w.heap.size + 1, 0, none⟩)) (by rfl) (fun W (hW : Below _ _ W) => ?_) ?_
        · skip
          go_simp
        try simp only [Act.put, List.setIfInBounds_toArray, List.set_cons_zero, List.set_cons_succ]
        refine qc_take (.int .u64 y1) (by rfl) (fun W (hW : Below _ _ W) => ?_) ?_
        · skip
          obtain ⟨y0, y1⟩ := Sn.c2 HR1.out hW
          go_simp
        try simp only [Act.put, List.setIfInBounds_toArray, List.set_cons_zero, List.set_cons_succ]
        refine qc_take (.pointer (some ⟨w.heap.size + 1, 1, none⟩)) (by rfl) (fun W (hW : Below _ _ W) => ?_) ?_
        · skip
          go_simp
        try simp only [Act.put, List.setIfInBounds_toArray, List.set_cons_zero, List.set_cons_succ]
        refine qc_take (.int .u64 y2) (by rfl) (fun W (hW : Below _ _ W) => ?_) ?_
        · skip
          obtain ⟨y0, y1⟩ := Sn.c2 HR1.out hW
          go_simp
        try simp only [Act.put, List.setIfInBounds_toArray, List.set_cons_zero, List.set_cons_succ]
        refine qc_take (.int .u64 x1) (by rfl) (fun W (hW : Below _ _ W) => ?_) ?_
        · skip
          go_simp
        try simp only [Act.put, List.setIfInBounds_toArray, List.set_cons_zero, List.set_cons_succ]
        refine qc_take (.int .u64 x2) (by rfl) (fun W (hW : Below _ _ W) => ?_) ?_
        · skip
          go_simp
        try simp only [Act.put, List.setIfInBounds_toArray, List.set_cons_zero, List.set_cons_succ]
        refine qc_take (.int .u64 y1) (by rfl) (fun W (hW : Below _ _ W) => ?_) ?_
        · skip
          go_simp
        try simp only [Act.put, List.setIfInBounds_toArray, List.set_cons_zero, List.set_cons_succ]
        refine qc_take (.int .u64 y2) (by rfl) (fun W (hW : Below _ _ W) => ?_) ?_
        · skip
          go_simp
        try simp only [Act.put, List.setIfInBounds_toArray, List.set_cons_zero, List.set_cons_succ]
        refine wpQuiet_nil ?_
        intro v2 hb
        have hr2 := Sn.bk_below HR2.out hb (Sn.bk_lt HR2.out)
        have hB := Sn.below_next HB.out hb HB.out.size
        clear HB HR2 hb
        have HB := Lib.hid hB
        have HR2 := Lib.hid hr2
        clear hB hr2
        clear HR0 HR1 v
        rename World => v
        go_wp2_with (first | (go_at_call 80; refine (rtwo_w _ (by omega) (by omega) _).mono ?_; rintro e w9 ⟨rfl, rfl⟩) | (go_at_call 78; refine (rfits_is false (by omega) (by omega) (by omega) (by omega) (decide_eq_false (by omega)) _).mono ?_; rintro e w9 ⟨rfl, rfl⟩) | (with_reducible refine Sn.store_sp (.tmp 10) (.tmp 46) (w.heap.size + 1 + 1) #[.int .u64 0, .int .u64 0] _ HR2.out rfl rfl rfl rfl rfl rfl (by simp [Value.oneCell']) ?_))
        refine Sn.ret_sp2 (w.heap.size + 1 + 1) _ _ (Sn.bk_row HR2.out _) rfl rfl rfl rfl rfl ⟨Sn.ret_t _ ?_ ?_, Sn.below_set HB.out (by omega) _⟩
        all_goals first | rfl | omega | (simp only [IntKind.wrap_u64]; omega)
    · rw [show Sn.shiR 16 a (x1, x2) (y1, y2) = ((0, 0), false) from (if_pos rfl).trans (if_neg (fun h => g1 h.1))]
      show Calls Try.prog 36 #[.int .i64 16, .int .i64 (Wd.wid a), .int .u64 (Wd.msk a), .agg #[.int .u64 x1, .int .u64 x2], .agg #[.int .u64 y1, .int .u64 y2]] w _
      go_enter Try.func36, Try.ntmps36
      go_upto_region 1 with (fail)
      have hB : Below w.heap.size w (((w.alloc (.cells #[.int .u64 x1, .int .u64 x2] 24)).alloc (.cells #[.int .u64 y1, .int .u64 y2] 24)).alloc (.cells #[.int .u64 0, .int .u64 0] 24)) := ((((Below.refl _ _).alloc (Nat.le_refl _) _).alloc (by simp) _).alloc (by simp; omega) _)
      have hr0 : Sn.Bk (((w.alloc (.cells #[.int .u64 x1, .int .u64 x2] 24)).alloc (.cells #[.int .u64 y1, .int .u64 y2] 24)).alloc (.cells #[.int .u64 0, .int .u64 0] 24)) (w.heap.size) 24 #[.int .u64 x1, .int .u64 x2] := Sn.bk_old (Sn.bk_old (Sn.bk_new _ _ _) _) _
      have hr1 : Sn.Bk (((w.alloc (.cells #[.int .u64 x1, .int .u64 x2] 24)).alloc (.cells #[.int .u64 y1, .int .u64 y2] 24)).alloc (.cells #[.int .u64 0, .int .u64 0] 24)) (w.heap.size + 1) 24 #[.int .u64 y1, .int .u64 y2] := Sn.bk_old (Sn.bk_at (by simp)) _
      have hr2 : Sn.Bk (((w.alloc (.cells #[.int .u64 x1, .int .u64 x2] 24)).alloc (.cells #[.int .u64 y1, .int .u64 y2] 24)).alloc (.cells #[.int .u64 0, .int .u64 0] 24)) (w.heap.size + 1 + 1) 24 #[.int .u64 0, .int .u64 0] := Sn.bk_at (by simp)
      generalize (((w.alloc (.cells #[.int .u64 x1, .int .u64 x2] 24)).alloc (.cells #[.int .u64 y1, .int .u64 y2] 24)).alloc (.cells #[.int .u64 0, .int .u64 0] 24)) = v at *
      have HB := Lib.hid hB
      have HR0 := Lib.hid hr0
      have HR1 := Lib.hid hr1
      have HR2 := Lib.hid hr2
      clear hB hr0 hr1 hr2
      refine qc_all (fun W => Below v.heap.size v W) (by kernel_rfl) (by kernel_rfl) (Below.refl _ _).drew ?_
      refine qc_take (.pointer (some ⟨w.heap.size, 0, none⟩)) (by rfl) (fun W (hW : Below _ _ W) => ?_) ?_
      · skip
        go_simp
      try simp only [Act.put, List.setIfInBounds_toArray, List.set_cons_zero, List.set_cons_succ]
      refine qc_take (.int .u64 x1) (by rfl) (fun W (hW : Below _ _ W) => ?_) ?_
      · skip
        obtain ⟨y0, y1⟩ := Sn.c2 HR0.out hW
        go_simp
      try simp only [Act.put, List.setIfInBounds_toArray, List.set_cons_zero, List.set_cons_succ]
      refine qc_take (.pointer (some ⟨w.heap.size, 1, none⟩)) (by rfl) (fun W (hW : Below _ _ W) => ?_) ?_
      · skip
        go_simp
      try simp only [Act.put, List.setIfInBounds_toArray, List.set_cons_zero, List.set_cons_succ]
      refine qc_take (.int .u64 x2) (by rfl) (fun W (hW : Below _ _ W) => ?_) ?_
      · skip
        obtain ⟨y0, y1⟩ := Sn.c2 HR0.out hW
        go_simp
      try simp only [Act.put, List.setIfInBounds_toArray, List.set_cons_zero, List.set_cons_succ]
      refine qc_take (.pointer (some ⟨w.heap.size + 1, 0, none⟩)) (by rfl) (fun W (hW : Below _ _ W) => ?_) ?_
      · skip
        go_simp
      try simp only [Act.put, List.setIfInBounds_toArray, List.set_cons_zero, List.set_cons_succ]
      refine qc_take (.int .u64 y1) (by rfl) (fun W (hW : Below _ _ W) => ?_) ?_
      · skip
        obtain ⟨y0, y1⟩ := Sn.c2 HR1.out hW
        go_simp
      try simp only [Act.put, List.setIfInBounds_toArray, List.set_cons_zero, List.set_cons_succ]
      refine qc_take (.pointer (some ⟨w.heap.size + 1, 1, none⟩)) (by rfl) (fun W (hW : Below _ _ W) => ?_) ?_
      · skip
        go_simp
      try simp only [Act.put, List.setIfInBounds_toArray, List.set_cons_zero, List.set_cons_succ]
      refine qc_take (.int .u64 y2) (by rfl) (fun W (hW : Below _ _ W) => ?_) ?_
      · skip
        obtain ⟨y0, y1⟩ := Sn.c2 HR1.out hW
        go_simp
      try simp only [Act.put, List.setIfInBounds_toArray, List.set_cons_zero, List.set_cons_succ]
      refine qc_take (.int .u64 x1) (by rfl) (fun W (hW : Below _ _ W) => ?_) ?_
      · skip
        go_simp
      try simp only [Act.put, List.setIfInBounds_toArray, List.set_cons_zero, List.set_cons_succ]
      refine qc_take (.int .u64 x2) (by rfl) (fun W (hW : Below _ _ W) => ?_) ?_
      · skip
        go_simp
      try simp only [Act.put, List.setIfInBounds_toArray, List.set_cons_zero, List.set_cons_succ]
      refine qc_take (.int .u64 y1) (by rfl) (fun W (hW : Below _ _ W) => ?_) ?_
      · skip
        go_simp
      try simp only [Act.put, List.setIfInBounds_toArray, List.set_cons_zero, List.set_cons_succ]
      refine qc_take (.int .u64 y2) (by rfl) (fun W (hW : Below _ _ W) => ?_) ?_
      · skip
        go_simp
      try simp only [Act.put, List.setIfInBounds_toArray, List.set_cons_zero, List.set_cons_succ]
      refine wpQuiet_nil ?_
      intro v2 hb
      have hr2 := Sn.bk_below HR2.out hb (Sn.bk_lt HR2.out)
      have hB := Sn.below_next HB.out hb HB.out.size
      clear HB HR2 hb
      have HB := Lib.hid hB
      have HR2 := Lib.hid hr2
      clear hB hr2
      clear HR0 HR1 v
      rename World => v
      go_wp2_with (first | (with_reducible refine Sn.store_sp (.tmp 10) (.tmp 46) (w.heap.size + 1 + 1) #[.int .u64 0, .int .u64 0] _ HR2.out rfl rfl rfl rfl rfl rfl (by simp [Value.oneCell']) ?_))
      refine Sn.ret_sp2 (w.heap.size + 1 + 1) _ _ (Sn.bk_row HR2.out _) rfl rfl rfl rfl rfl ⟨Sn.ret_t _ ?_ ?_, Sn.below_set HB.out (by omega) _⟩
      all_goals first | rfl | omega | (simp only [IntKind.wrap_u64]; omega)
  · subst h
    rw [show Sn.shiR 17 a (x1, x2) (y1, y2) = ((x1 / Wd.pw (Wd.sh y2), x2 / Wd.pw (Wd.sh y1)), true) from rfl]
    show Calls Try.prog 36 #[.int .i64 17, .int .i64 (Wd.wid a), .int .u64 (Wd.msk a), .agg #[.int .u64 x1, .int .u64 x2], .agg #[.int .u64 y1, .int .u64 y2]] w _
    go_enter Try.func36, Try.ntmps36
    go_upto_region 1 with (fail)
    have hB : Below w.heap.size w (((w.alloc (.cells #[.int .u64 x1, .int .u64 x2] 24)).alloc (.cells #[.int .u64 y1, .int .u64 y2] 24)).alloc (.cells #[.int .u64 0, .int .u64 0] 24)) := ((((Below.refl _ _).alloc (Nat.le_refl _) _).alloc (by simp) _).alloc (by simp; omega) _)
    have hr0 : Sn.Bk (((w.alloc (.cells #[.int .u64 x1, .int .u64 x2] 24)).alloc (.cells #[.int .u64 y1, .int .u64 y2] 24)).alloc (.cells #[.int .u64 0, .int .u64 0] 24)) (w.heap.size) 24 #[.int .u64 x1, .int .u64 x2] := Sn.bk_old (Sn.bk_old (Sn.bk_new _ _ _) _) _
    have hr1 : Sn.Bk (((w.alloc (.cells #[.int .u64 x1, .int .u64 x2] 24)).alloc (.cells #[.int .u64 y1, .int .u64 y2] 24)).alloc (.cells #[.int .u64 0, .int .u64 0] 24)) (w.heap.size + 1) 24 #[.int .u64 y1, .int .u64 y2] := Sn.bk_old (Sn.bk_at (by simp)) _
    have hr2 : Sn.Bk (((w.alloc (.cells #[.int .u64 x1, .int .u64 x2] 24)).alloc (.cells #[.int .u64 y1, .int .u64 y2] 24)).alloc (.cells #[.int .u64 0, .int .u64 0] 24)) (w.heap.size + 1 + 1) 24 #[.int .u64 0, .int .u64 0] := Sn.bk_at (by simp)
    generalize (((w.alloc (.cells #[.int .u64 x1, .int .u64 x2] 24)).alloc (.cells #[.int .u64 y1, .int .u64 y2] 24)).alloc (.cells #[.int .u64 0, .int .u64 0] 24)) = v at *
    have HB := Lib.hid hB
    have HR0 := Lib.hid hr0
    have HR1 := Lib.hid hr1
    have HR2 := Lib.hid hr2
    clear hB hr0 hr1 hr2
    refine qc_all (fun W => Below v.heap.size v W) (by kernel_rfl) (by kernel_rfl) (Below.refl _ _).drew ?_
    refine qc_take (.pointer (some ⟨w.heap.size, 0, none⟩)) (by rfl) (fun W (hW : Below _ _ W) => ?_) ?_
    · skip
      go_simp
    try simp only [Act.put, List.setIfInBounds_toArray, List.set_cons_zero, List.set_cons_succ]
    refine qc_take (.int .u64 x1) (by rfl) (fun W (hW : Below _ _ W) => ?_) ?_
    · skip
      obtain ⟨y0, y1⟩ := Sn.c2 HR0.out hW
      go_simp
    try simp only [Act.put, List.setIfInBounds_toArray, List.set_cons_zero, List.set_cons_succ]
    refine qc_take (.pointer (some ⟨w.heap.size, 1, none⟩)) (by rfl) (fun W (hW : Below _ _ W) => ?_) ?_
    · skip
      go_simp
    try simp only [Act.put, List.setIfInBounds_toArray, List.set_cons_zero, List.set_cons_succ]
    refine qc_take (.int .u64 x2) (by rfl) (fun W (hW : Below _ _ W) => ?_) ?_
    · skip
      obtain ⟨y0, y1⟩ := Sn.c2 HR0.out hW
      go_simp
    try simp only [Act.put, List.setIfInBounds_toArray, List.set_cons_zero, List.set_cons_succ]
    refine qc_take (.pointer (some ⟨w.heap.size + 1, 0, none⟩)) (by rfl) (fun W (hW : Below _ _ W) => ?_) ?_
    · skip
      go_simp
    try simp only [Act.put, List.setIfInBounds_toArray, List.set_cons_zero, List.set_cons_succ]
    refine qc_take (.int .u64 y1) (by rfl) (fun W (hW : Below _ _ W) => ?_) ?_
    · skip
      obtain ⟨y0, y1⟩ := Sn.c2 HR1.out hW
      go_simp
    try simp only [Act.put, List.setIfInBounds_toArray, List.set_cons_zero, List.set_cons_succ]
    refine qc_take (.pointer (some ⟨w.heap.size + 1, 1, none⟩)) (by rfl) (fun W (hW : Below _ _ W) => ?_) ?_
    · skip
      go_simp
    try simp only [Act.put, List.setIfInBounds_toArray, List.set_cons_zero, List.set_cons_succ]
    refine qc_take (.int .u64 y2) (by rfl) (fun W (hW : Below _ _ W) => ?_) ?_
    · skip
      obtain ⟨y0, y1⟩ := Sn.c2 HR1.out hW
      go_simp
    try simp only [Act.put, List.setIfInBounds_toArray, List.set_cons_zero, List.set_cons_succ]
    refine qc_take (.int .u64 x1) (by rfl) (fun W (hW : Below _ _ W) => ?_) ?_
    · skip
      go_simp
    try simp only [Act.put, List.setIfInBounds_toArray, List.set_cons_zero, List.set_cons_succ]
    refine qc_take (.int .u64 x2) (by rfl) (fun W (hW : Below _ _ W) => ?_) ?_
    · skip
      go_simp
    try simp only [Act.put, List.setIfInBounds_toArray, List.set_cons_zero, List.set_cons_succ]
    refine qc_take (.int .u64 y1) (by rfl) (fun W (hW : Below _ _ W) => ?_) ?_
    · skip
      go_simp
    try simp only [Act.put, List.setIfInBounds_toArray, List.set_cons_zero, List.set_cons_succ]
    refine qc_take (.int .u64 y2) (by rfl) (fun W (hW : Below _ _ W) => ?_) ?_
    · skip
      go_simp
    try simp only [Act.put, List.setIfInBounds_toArray, List.set_cons_zero, List.set_cons_succ]
    refine wpQuiet_nil ?_
    intro v2 hb
    have hr2 := Sn.bk_below HR2.out hb (Sn.bk_lt HR2.out)
    have hB := Sn.below_next HB.out hb HB.out.size
    clear HB HR2 hb
    have HB := Lib.hid hB
    have HR2 := Lib.hid hr2
    clear hB hr2
    clear HR0 HR1 v
    rename World => v
    go_wp2_with (first | (go_at_call 81; refine (rdown_w a _ _ (by omega) (by omega) (by omega) (by omega) _).mono ?_; rintro e w9 ⟨rfl, rfl⟩) | (with_reducible refine Sn.store_sp (.tmp 10) (.tmp 64) (w.heap.size + 1 + 1) #[.int .u64 0, .int .u64 0] _ HR2.out rfl rfl rfl rfl rfl rfl (by simp [Value.oneCell']) ?_))
    refine Sn.ret_sp2 (w.heap.size + 1 + 1) _ _ (Sn.bk_row HR2.out _) rfl rfl rfl rfl rfl ⟨Sn.ret_t _ ?_ ?_, Sn.below_set HB.out (by omega) _⟩
    all_goals first | rfl | omega | (simp only [IntKind.wrap_u64]; omega)
  · subst h
    by_cases g1 : Wd.msk a / 2 < x2
    · rw [show Sn.shiR 18 a (x1, x2) (y1, y2) = ((0, 0), false) from (if_neg (by decide)).trans (if_pos ⟨rfl, g1⟩)]
      show Calls Try.prog 36 #[.int .i64 18, .int .i64 (Wd.wid a), .int .u64 (Wd.msk a), .agg #[.int .u64 x1, .int .u64 x2], .agg #[.int .u64 y1, .int .u64 y2]] w _
      go_enter Try.func36, Try.ntmps36
      go_upto_region 1 with (fail)
      have hB : Below w.heap.size w (((w.alloc (.cells #[.int .u64 x1, .int .u64 x2] 24)).alloc (.cells #[.int .u64 y1, .int .u64 y2] 24)).alloc (.cells #[.int .u64 0, .int .u64 0] 24)) := ((((Below.refl _ _).alloc (Nat.le_refl _) _).alloc (by simp) _).alloc (by simp; omega) _)
      have hr0 : Sn.Bk (((w.alloc (.cells #[.int .u64 x1, .int .u64 x2] 24)).alloc (.cells #[.int .u64 y1, .int .u64 y2] 24)).alloc (.cells #[.int .u64 0, .int .u64 0] 24)) (w.heap.size) 24 #[.int .u64 x1, .int .u64 x2] := Sn.bk_old (Sn.bk_old (Sn.bk_new _ _ _) _) _
      have hr1 : Sn.Bk (((w.alloc (.cells #[.int .u64 x1, .int .u64 x2] 24)).alloc (.cells #[.int .u64 y1, .int .u64 y2] 24)).alloc (.cells #[.int .u64 0, .int .u64 0] 24)) (w.heap.size + 1) 24 #[.int .u64 y1, .int .u64 y2] := Sn.bk_old (Sn.bk_at (by simp)) _
      have hr2 : Sn.Bk (((w.alloc (.cells #[.int .u64 x1, .int .u64 x2] 24)).alloc (.cells #[.int .u64 y1, .int .u64 y2] 24)).alloc (.cells #[.int .u64 0, .int .u64 0] 24)) (w.heap.size + 1 + 1) 24 #[.int .u64 0, .int .u64 0] := Sn.bk_at (by simp)
      generalize (((w.alloc (.cells #[.int .u64 x1, .int .u64 x2] 24)).alloc (.cells #[.int .u64 y1, .int .u64 y2] 24)).alloc (.cells #[.int .u64 0, .int .u64 0] 24)) = v at *
      have HB := Lib.hid hB
      have HR0 := Lib.hid hr0
      have HR1 := Lib.hid hr1
      have HR2 := Lib.hid hr2
      clear hB hr0 hr1 hr2
      refine qc_all (fun W => Below v.heap.size v W) (by kernel_rfl) (by kernel_rfl) (Below.refl _ _).drew ?_
      refine qc_take (.pointer (some ⟨w.heap.size, 0, none⟩)) (by rfl) (fun W (hW : Below _ _ W) => ?_) ?_
      · skip
        go_simp
      try simp only [Act.put, List.setIfInBounds_toArray, List.set_cons_zero, List.set_cons_succ]
      refine qc_take (.int .u64 x1) (by rfl) (fun W (hW : Below _ _ W) => ?_) ?_
      · skip
        obtain ⟨y0, y1⟩ := Sn.c2 HR0.out hW
        go_simp
      try simp only [Act.put, List.setIfInBounds_toArray, List.set_cons_zero, List.set_cons_succ]
      refine qc_take (.pointer (some ⟨w.heap.size, 1, none⟩)) (by rfl) (fun W (hW : Below _ _ W) => ?_) ?_
      · skip
        go_simp
      try simp only [Act.put, List.setIfInBounds_toArray, List.set_cons_zero, List.set_cons_succ]
      refine qc_take (.int .u64 x2) (by rfl) (fun W (hW : Below _ _ W) => ?_) ?_
      · skip
        obtain ⟨y0, y1⟩ := Sn.c2 HR0.out hW
        go_simp
      try simp only [Act.put, List.setIfInBounds_toArray, List.set_cons_zero, List.set_cons_succ]
      refine qc_take (.pointer (some ⟨w.heap.size + 1, 0, none⟩)) (by rfl) (fun W (hW : Below _ _ W) => ?_) ?_
      · skip
        go_simp
      try simp only [Act.put, List.setIfInBounds_toArray, List.set_cons_zero, List.set_cons_succ]
      refine qc_take (.int .u64 y1) (by rfl) (fun W (hW : Below _ _ W) => ?_) ?_
      · skip
        obtain ⟨y0, y1⟩ := Sn.c2 HR1.out hW
        go_simp
      try simp only [Act.put, List.setIfInBounds_toArray, List.set_cons_zero, List.set_cons_succ]
      refine qc_take (.pointer (some ⟨w.heap.size + 1, 1, none⟩)) (by rfl) (fun W (hW : Below _ _ W) => ?_) ?_
      · skip
        go_simp
      try simp only [Act.put, List.setIfInBounds_toArray, List.set_cons_zero, List.set_cons_succ]
      refine qc_take (.int .u64 y2) (by rfl) (fun W (hW : Below _ _ W) => ?_) ?_
      · skip
        obtain ⟨y0, y1⟩ := Sn.c2 HR1.out hW
        go_simp
      try simp only [Act.put, List.setIfInBounds_toArray, List.set_cons_zero, List.set_cons_succ]
      refine qc_take (.int .u64 x1) (by rfl) (fun W (hW : Below _ _ W) => ?_) ?_
      · skip
        go_simp
      try simp only [Act.put, List.setIfInBounds_toArray, List.set_cons_zero, List.set_cons_succ]
      refine qc_take (.int .u64 x2) (by rfl) (fun W (hW : Below _ _ W) => ?_) ?_
      · skip
        go_simp
      try simp only [Act.put, List.setIfInBounds_toArray, List.set_cons_zero, List.set_cons_succ]
      refine qc_take (.int .u64 y1) (by rfl) (fun W (hW : Below _ _ W) => ?_) ?_
      · skip
        go_simp
      try simp only [Act.put, List.setIfInBounds_toArray, List.set_cons_zero, List.set_cons_succ]
      refine qc_take (.int .u64 y2) (by rfl) (fun W (hW : Below _ _ W) => ?_) ?_
      · skip
        go_simp
      try simp only [Act.put, List.setIfInBounds_toArray, List.set_cons_zero, List.set_cons_succ]
      refine wpQuiet_nil ?_
      intro v2 hb
      have hr2 := Sn.bk_below HR2.out hb (Sn.bk_lt HR2.out)
      have hB := Sn.below_next HB.out hb HB.out.size
      clear HB HR2 hb
      have HB := Lib.hid hB
      have HR2 := Lib.hid hr2
      clear hB hr2
      clear HR0 HR1 v
      rename World => v
      go_wp2_with (first | (with_reducible refine Sn.store_sp (.tmp 10) (.tmp 55) (w.heap.size + 1 + 1) #[.int .u64 0, .int .u64 0] _ HR2.out rfl rfl rfl rfl rfl rfl (by simp [Value.oneCell']) ?_))
      refine Sn.ret_sp2 (w.heap.size + 1 + 1) _ _ (Sn.bk_row HR2.out _) rfl rfl rfl rfl rfl ⟨Sn.ret_t _ ?_ ?_, Sn.below_set HB.out (by omega) _⟩
      all_goals first | rfl | omega | (simp only [IntKind.wrap_u64]; omega)
    · rw [show Sn.shiR 18 a (x1, x2) (y1, y2) = ((x1 / Wd.pw (Wd.sh y2), x2 / Wd.pw (Wd.sh y1)), true) from (if_neg (by decide)).trans (if_neg (fun h => g1 h.2))]
      show Calls Try.prog 36 #[.int .i64 18, .int .i64 (Wd.wid a), .int .u64 (Wd.msk a), .agg #[.int .u64 x1, .int .u64 x2], .agg #[.int .u64 y1, .int .u64 y2]] w _
      go_enter Try.func36, Try.ntmps36
      go_upto_region 1 with (fail)
      have hB : Below w.heap.size w (((w.alloc (.cells #[.int .u64 x1, .int .u64 x2] 24)).alloc (.cells #[.int .u64 y1, .int .u64 y2] 24)).alloc (.cells #[.int .u64 0, .int .u64 0] 24)) := ((((Below.refl _ _).alloc (Nat.le_refl _) _).alloc (by simp) _).alloc (by simp; omega) _)
      have hr0 : Sn.Bk (((w.alloc (.cells #[.int .u64 x1, .int .u64 x2] 24)).alloc (.cells #[.int .u64 y1, .int .u64 y2] 24)).alloc (.cells #[.int .u64 0, .int .u64 0] 24)) (w.heap.size) 24 #[.int .u64 x1, .int .u64 x2] := Sn.bk_old (Sn.bk_old (Sn.bk_new _ _ _) _) _
      have hr1 : Sn.Bk (((w.alloc (.cells #[.int .u64 x1, .int .u64 x2] 24)).alloc (.cells #[.int .u64 y1, .int .u64 y2] 24)).alloc (.cells #[.int .u64 0, .int .u64 0] 24)) (w.heap.size + 1) 24 #[.int .u64 y1, .int .u64 y2] := Sn.bk_old (Sn.bk_at (by simp)) _
      have hr2 : Sn.Bk (((w.alloc (.cells #[.int .u64 x1, .int .u64 x2] 24)).alloc (.cells #[.int .u64 y1, .int .u64 y2] 24)).alloc (.cells #[.int .u64 0, .int .u64 0] 24)) (w.heap.size + 1 + 1) 24 #[.int .u64 0, .int .u64 0] := Sn.bk_at (by simp)
      generalize (((w.alloc (.cells #[.int .u64 x1, .int .u64 x2] 24)).alloc (.cells #[.int .u64 y1, .int .u64 y2] 24)).alloc (.cells #[.int .u64 0, .int .u64 0] 24)) = v at *
      have HB := Lib.hid hB
      have HR0 := Lib.hid hr0
      have HR1 := Lib.hid hr1
      have HR2 := Lib.hid hr2
      clear hB hr0 hr1 hr2
      refine qc_all (fun W => Below v.heap.size v W) (by kernel_rfl) (by kernel_rfl) (Below.refl _ _).drew ?_
      refine qc_take (.pointer (some ⟨w.heap.size, 0, none⟩)) (by rfl) (fun W (hW : Below _ _ W) => ?_) ?_
      · skip
        go_simp
      try simp only [Act.put, List.setIfInBounds_toArray, List.set_cons_zero, List.set_cons_succ]
      refine qc_take (.int .u64 x1) (by rfl) (fun W (hW : Below _ _ W) => ?_) ?_
      · skip
        obtain ⟨y0, y1⟩ := Sn.c2 HR0.out hW
        go_simp
      try simp only [Act.put, List.setIfInBounds_toArray, List.set_cons_zero, List.set_cons_succ]
      refine qc_take (.pointer (some ⟨w.heap.size, 1, none⟩)) (by rfl) (fun W (hW : Below _ _ W) => ?_) ?_
      · skip
        go_simp
      try simp only [Act.put, List.setIfInBounds_toArray, List.set_cons_zero, List.set_cons_succ]
      refine qc_take (.int .u64 x2) (by rfl) (fun W (hW : Below _ _ W) => ?_) ?_
      · skip
        obtain ⟨y0, y1⟩ := Sn.c2 HR0.out hW
        go_simp
      try simp only [Act.put, List.setIfInBounds_toArray, List.set_cons_zero, List.set_cons_succ]
      refine qc_take (.pointer (some ⟨w.heap.size + 1, 0, none⟩)) (by rfl) (fun W (hW : Below _ _ W) => ?_) ?_
      · skip
        go_simp
      try simp only [Act.put, List.setIfInBounds_toArray, List.set_cons_zero, List.set_cons_succ]
      refine qc_take (.int .u64 y1) (by rfl) (fun W (hW : Below _ _ W) => ?_) ?_
      · skip
        obtain ⟨y0, y1⟩ := Sn.c2 HR1.out hW
        go_simp
      try simp only [Act.put, List.setIfInBounds_toArray, List.set_cons_zero, List.set_cons_succ]
      refine qc_take (.pointer (some ⟨w.heap.size + 1, 1, none⟩)) (by rfl) (fun W (hW : Below _ _ W) => ?_) ?_
      · skip
        go_simp
      try simp only [Act.put, List.setIfInBounds_toArray, List.set_cons_zero, List.set_cons_succ]
      refine qc_take (.int .u64 y2) (by rfl) (fun W (hW : Below _ _ W) => ?_) ?_
      · skip
        obtain ⟨y0, y1⟩ := Sn.c2 HR1.out hW
        go_simp
      try simp only [Act.put, List.setIfInBounds_toArray, List.set_cons_zero, List.set_cons_succ]
      refine qc_take (.int .u64 x1) (by rfl) (fun W (hW : Below _ _ W) => ?_) ?_
      · skip
        go_simp
      try simp only [Act.put, List.setIfInBounds_toArray, List.set_cons_zero, List.set_cons_succ]
      refine qc_take (.int .u64 x2) (by rfl) (fun W (hW : Below _ _ W) => ?_) ?_
      · skip
        go_simp
      try simp only [Act.put, List.setIfInBounds_toArray, List.set_cons_zero, List.set_cons_succ]
      refine qc_take (.int .u64 y1) (by rfl) (fun W (hW : Below _ _ W) => ?_) ?_
      · skip
        go_simp
      try simp only [Act.put, List.setIfInBounds_toArray, List.set_cons_zero, List.set_cons_succ]
      refine qc_take (.int .u64 y2) (by rfl) (fun W (hW : Below _ _ W) => ?_) ?_
      · skip
        go_simp
      try simp only [Act.put, List.setIfInBounds_toArray, List.set_cons_zero, List.set_cons_succ]
      refine wpQuiet_nil ?_
      intro v2 hb
      have hr2 := Sn.bk_below HR2.out hb (Sn.bk_lt HR2.out)
      have hB := Sn.below_next HB.out hb HB.out.size
      clear HB HR2 hb
      have HB := Lib.hid hB
      have HR2 := Lib.hid hr2
      clear hB hr2
      clear HR0 HR1 v
      rename World => v
      go_wp2_with (first | (go_at_call 81; refine (rdown_w a _ _ (by omega) (by omega) (by omega) (by omega) _).mono ?_; rintro e w9 ⟨rfl, rfl⟩) | (with_reducible refine Sn.store_sp (.tmp 10) (.tmp 64) (w.heap.size + 1 + 1) #[.int .u64 0, .int .u64 0] _ HR2.out rfl rfl rfl rfl rfl rfl (by simp [Value.oneCell']) ?_))
      refine Sn.ret_sp2 (w.heap.size + 1 + 1) _ _ (Sn.bk_row HR2.out _) rfl rfl rfl rfl rfl ⟨Sn.ret_t _ ?_ ?_, Sn.below_set HB.out (by omega) _⟩
      all_goals first | rfl | omega | (simp only [IntKind.wrap_u64]; omega)


end Go.Proofs.Ytbjckcjfambpoaa
namespace Go.Proofs.Ytbjckcjfambpoaa
set_option linter.unusedSimpArgs false
set_option linter.unusedVariables false
open Go.RowKit Go.Maps
set_option maxRecDepth 100000

theorem Wd.wid_wid (a : Int) : Wd.wid (Wd.wid a) = Wd.wid a := by have h1 := Wd.wid_lo a; have h2 := Wd.wid_hi a; unfold Wd.wid at *; omega
theorem Wd.msk_wid (a : Int) : Wd.msk (Wd.wid a) = Wd.msk a := by unfold Wd.msk; rw [Wd.wid_wid]
theorem Sn.rt_wid (a : Int) (s : Sn.S) : Sn.rt (Wd.wid a) s = Sn.rt a s := by unfold Sn.rt Sn.whole; rw [Wd.msk_wid]
theorem Wd.app_wid (op a x y : Int) : Wd.app op (Wd.wid a) x y = Wd.app op a x y := by
  unfold Wd.app Wd.dvd Wd.sgn Wd.cut Wd.hib
  rw [Wd.msk_wid, Wd.wid_wid]
theorem Sn.ap_tab {op a : Int} {x y : Sn.S} (h : ¬ (x.1 = x.2 ∧ y.1 = y.2)) : Sn.ap op a x y = Sn.tab op a x y := if_neg h
theorem Sn.tru_012 (op a : Int) (x y : Sn.S) : Sn.tru op a x y = 0 ∨ Sn.tru op a x y = 1 ∨ Sn.tru op a x y = 2 := by
  have ho : Sn.ord x y = 0 ∨ Sn.ord x y = 1 ∨ Sn.ord x y = 2 := by
    by_cases h1 : x.2 < y.1
    · exact .inr (.inl (if_pos h1))
    · by_cases h2 : y.2 ≤ x.1
      · exact .inl ((if_neg h1).trans (if_pos h2))
      · exact .inr (.inr ((if_neg h1).trans (if_neg h2)))
  unfold Sn.tru
  repeat' split
  all_goals first | exact ho | simp
theorem Sn.sum_tab (op a : Int) (x y : Sn.S) (h : op = 5 ∨ op = 8 ∨ op = 9 ∨ op = 10) : Sn.tab op a x y = if (Sn.sumR op a x y).2 then (Sn.sumR op a x y).1 else Sn.whole a := by
  rcases h with h | h | h | h <;> subst h
  · rfl
  · show Sn.addT a x y = _
    unfold Sn.addT
    by_cases g1 : x.2 + y.2 ≤ Wd.msk a
    · rw [if_pos g1, show Sn.sumR 8 a x y = ((x.1 + y.1, x.2 + y.2), true) by unfold Sn.sumR; rw [if_neg (by omega), if_pos (by omega)]]; rfl
    · rw [if_neg g1]
      by_cases g2 : Wd.msk a < x.1 + y.1
      · rw [if_pos g2, show Sn.sumR 8 a x y = ((x.1 + y.1 - (Wd.msk a + 1), x.2 + y.2 - (Wd.msk a + 1)), true) by unfold Sn.sumR; rw [if_neg (by omega), if_neg (by omega), if_pos (by omega)]]; rfl
      · rw [if_neg g2, show Sn.sumR 8 a x y = ((0, 0), false) by unfold Sn.sumR; rw [if_neg (by omega), if_neg (by omega), if_neg (by omega), if_neg (by omega), if_neg (by omega), if_neg (by omega)]]; rfl
  · show Sn.subT a x y = _
    unfold Sn.subT
    by_cases g1 : y.2 ≤ x.1
    · rw [if_pos g1, show Sn.sumR 9 a x y = ((x.1 - y.2, x.2 - y.1), true) by unfold Sn.sumR; rw [if_neg (by omega), if_neg (by omega), if_neg (by omega), if_pos (by omega)]]; rfl
    · rw [if_neg g1]
      by_cases g2 : x.2 < y.1
      · rw [if_pos g2, show Sn.sumR 9 a x y = ((x.1 - y.2 + (Wd.msk a + 1), x.2 - y.1 + (Wd.msk a + 1)), true) by unfold Sn.sumR; rw [if_neg (by omega), if_neg (by omega), if_neg (by omega), if_neg (by omega), if_pos (by omega)]]; rfl
      · rw [if_neg g2, show Sn.sumR 9 a x y = ((0, 0), false) by unfold Sn.sumR; rw [if_neg (by omega), if_neg (by omega), if_neg (by omega), if_neg (by omega), if_neg (by omega), if_neg (by omega)]]; rfl
  · show Sn.mulT a x y = _
    unfold Sn.mulT
    by_cases g1 : x.2 * y.2 ≤ Wd.msk a
    · rw [if_pos g1, show Sn.sumR 10 a x y = ((x.1 * y.1, x.2 * y.2), true) by unfold Sn.sumR; rw [if_neg (by omega), if_neg (by omega), if_neg (by omega), if_neg (by omega), if_neg (by omega), if_pos ⟨rfl, g1⟩]]; rfl
    · rw [if_neg g1, show Sn.sumR 10 a x y = ((0, 0), false) by unfold Sn.sumR; rw [if_neg (by omega), if_neg (by omega), if_neg (by omega), if_neg (by omega), if_neg (by omega), if_neg (fun h => g1 h.2)]]; rfl
theorem Sn.par_tab (op a : Int) (x y : Sn.S) : Sn.tab op a x y = if (Sn.parR op a x y).2 then (Sn.parR op a x y).1 else Sn.whole a := by
  unfold Sn.parR
  by_cases h : op = 11 ∧ y.1 = 0
  · rw [if_pos h]
    obtain ⟨rfl, h2⟩ := h
    show Sn.divT a x y = Sn.whole a
    unfold Sn.divT
    rw [if_pos h2]
  · rw [if_neg h]; rfl
theorem Sn.shi_tab (op a : Int) (x y : Sn.S) (h : op = 16 ∨ op = 17 ∨ op = 18) : Sn.tab op a x y = if (Sn.shiR op a x y).2 then (Sn.shiR op a x y).1 else Sn.whole a := by
  have hh : Wd.msk a / 2 = Wd.hib a - 1 := by have := Wd.pw_hib a; unfold Wd.msk; omega
  rcases h with h | h | h <;> subst h
  · show Sn.shlT a x y = _
    unfold Sn.shlT
    by_cases g : y.2 < Wd.wid a ∧ x.2 * Wd.pw y.2.toNat ≤ Wd.msk a
    · rw [if_pos g, show Sn.shiR 16 a x y = (Sn.tab 16 a x y, true) from (if_pos rfl).trans (if_pos g)]
      show _ = Sn.shlT a x y
      unfold Sn.shlT
      rw [if_pos g]
    · rw [if_neg g, show Sn.shiR 16 a x y = ((0, 0), false) from (if_pos rfl).trans (if_neg g)]; rfl
  · rfl
  · show Sn.sarT a x y = _
    unfold Sn.sarT
    by_cases g : Wd.msk a / 2 < x.2
    · rw [if_neg (show ¬ x.2 < Wd.hib a by omega), show Sn.shiR 18 a x y = ((0, 0), false) from (if_neg (by decide)).trans (if_pos ⟨rfl, g⟩)]; rfl
    · rw [if_pos (show x.2 < Wd.hib a by omega), show Sn.shiR 18 a x y = (Sn.shrT x y, true) from (if_neg (by decide)).trans (if_neg (fun h => g h.2))]; rfl

theorem Sn.ap_none {op a : Int} {x y : Sn.S} (h : op < 5 ∨ 21 < op ∨ op = 6 ∨ op = 7) : Sn.ap op a x y = (0, 0) := by
  unfold Sn.ap
  split
  · have e : Wd.app op a x.1 y.1 = 0 := by
      unfold Wd.app
      rw [if_neg (by omega), if_neg (by omega), if_neg (by omega), if_neg (by omega), if_neg (by omega), if_neg (by omega), if_neg (by omega), if_neg (by omega), if_neg (by omega), if_neg (by omega), if_neg (by omega), if_neg (by omega), if_neg (by omega), if_neg (by omega), if_neg (by omega)]
    rw [e]
  · unfold Sn.tab
    rw [if_neg (by omega), if_neg (by omega), if_neg (by omega), if_neg (by omega), if_neg (by omega), if_neg (by omega), if_neg (by omega), if_neg (by omega), if_neg (by omega), if_neg (by omega), if_neg (by omega), if_neg (by omega), if_neg (by omega), if_neg (by omega), if_neg (by omega)]
theorem rapply_w (op a x y : Int) (x0 : 0 ≤ x) (x1 : x < 18446744073709551616) (y0 : 0 ≤ y) (y1 : y < 18446744073709551616) (w : World) :
    Calls Try.prog 32 #[.int .i64 op, .int .i64 (Wd.wid a), .int .u64 x, .int .u64 y] w fun e w' => e = .returned (.int .u64 (Wd.app op a x y)) ∧ Below w.heap.size w w' := by
  obtain ⟨m, rfl⟩ := Int.eq_ofNat_of_zero_le x0
  obtain ⟨n, rfl⟩ := Int.eq_ofNat_of_zero_le y0
  have h := rapply_any op (Wd.wid a) m n (by omega) (by omega) w
  rw [Wd.app_wid] at h
  exact h
theorem wd_rwidth_w (a : Int) (w : World) : Calls Try.prog 30 #[.int .i64 a] w fun e w' => e = .returned (.int .i64 (Wd.wid a)) ∧ w = w' := by
  go_enter Try.func30, Try.ntmps30
  go_wp2
  all_goals
    go_ret
    refine ⟨wret_int ?_, rfl⟩
    unfold Wd.wid
    omega


end Go.Proofs.Ytbjckcjfambpoaa
