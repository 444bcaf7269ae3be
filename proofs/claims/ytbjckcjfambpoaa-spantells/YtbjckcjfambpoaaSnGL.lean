/-
  Layer 11: the reference's Apply whole; the walk of SpanTells.
-/
import Derived.Test.YtbjckcjfambpoaaSnL0
import Derived.Test.YtbjckcjfambpoaaSnGT
set_option linter.unusedSimpArgs false
set_option linter.unusedVariables false
namespace Go.Proofs.Ytbjckcjfambpoaa
set_option linter.unusedSimpArgs false
set_option linter.unusedVariables false
open Go.RowKit Go.Maps
set_option maxRecDepth 100000

theorem rapplyS_any (op a : Int) (x y : Sn.S) (hx : Sn.U x) (hy : Sn.U y) (w : World) :
    Calls Try.prog 10 #[.int .i64 op, .int .i64 a, Sn.v x, Sn.v y] w fun e w' => e = .returned (Sn.v (Sn.apply op a x y)) ∧ Below w.heap.size w w' := by
  have hpx := Sn.rt_ok a x hx.1.1
  have hpy := Sn.rt_ok a y hy.1.1
  show Calls Try.prog 10 #[.int .i64 op, .int .i64 a, Sn.v x, Sn.v y] w fun e w' => e = .returned (Sn.v (Sn.ap op a (Sn.rt a x) (Sn.rt a y))) ∧ Below w.heap.size w w'
  by_cases h1 : op < 5 ∨ 21 < op ∨ op = 6 ∨ op = 7
  · exact rapS_all op a x y (.inl h1) hpx hpy w
  have hn : 5 ≤ op ∧ op ≤ 21 ∧ op ≠ 6 ∧ op ≠ 7 := by omega
  by_cases h2 : (Sn.rt a x).1 = (Sn.rt a x).2 ∧ (op = 5 ∨ (Sn.rt a y).1 = (Sn.rt a y).2)
  · exact rapS_all op a x y (.inr (.inl ⟨hn, h2.1, h2.2⟩)) hpx hpy w
  by_cases h3 : op = 5 ∨ op = 8 ∨ op = 9 ∨ op = 10
  · exact rapS_all op a x y (.inr (.inr (.inl ⟨h3, h2⟩))) hpx hpy w
  by_cases h4 : op = 11 ∨ op = 12 ∨ op = 13 ∨ op = 14 ∨ op = 15
  · exact rapS_all op a x y (.inr (.inr (.inr (.inl ⟨h4, h2⟩)))) hpx hpy w
  by_cases h5 : op = 16 ∨ op = 17 ∨ op = 18
  · exact rapS_all op a x y (.inr (.inr (.inr (.inr (.inl ⟨h5, h2⟩))))) hpx hpy w
  exact rapS_all op a x y (.inr (.inr (.inr (.inr (.inr ⟨by omega, h2⟩))))) hpx hpy w

set_option maxHeartbeats 25600000 in
theorem tells_walk (op a : Int) (x y : Sn.S) (n : Int) (hx : Sn.U x) (hy : Sn.U y) (w : World) :
    Calls Try.prog 3 #[.int .i64 op, .int .i64 a, Sn.v x, Sn.v y, .int .u64 n] w fun e w' => e = .returned (.bool true) ∧ Below w.heap.size w w' := by
  obtain ⟨x1, x2⟩ := x
  obtain ⟨y1, y2⟩ := y
  have A1 := Lib.hid (fun W => apply_any op a (x1, x2) (y1, y2) hx hy W)
  have A2 := Lib.hid (fun W => rapplyS_any op a (x1, x2) (y1, y2) hx hy W)
  have R1 := Lib.hid (fun W => right_any a (x1, x2) W)
  have R2 := Lib.hid (fun W => rright_any a (x1, x2) W)
  have C1 := Lib.hid (fun W => has_any a (x1, x2) n W)
  have C2 := Lib.hid (fun W => rhas_any a (x1, x2) n W)
  have M1 := Lib.hid (fun W => meet_any a (x1, x2) (y1, y2) W)
  have M2 := Lib.hid (fun W => rmeet_any a (x1, x2) (y1, y2) W)
  have J1 := Lib.hid (fun W => join_any a (x1, x2) (y1, y2) W)
  have J2 := Lib.hid (fun W => rjoin_any a (x1, x2) (y1, y2) W)
  clear hx hy
  generalize Sn.apply op a (x1, x2) (y1, y2) = s at *
  generalize Sn.rt a (x1, x2) = r at *
  generalize Sn.has a (x1, x2) n = h at *
  generalize Sn.meet a (x1, x2) (y1, y2) = m at *
  generalize Sn.join a (x1, x2) (y1, y2) = j at *
  obtain ⟨s1, s2⟩ := s
  obtain ⟨p1, p2⟩ := r
  obtain ⟨⟨m1, m2⟩, ok⟩ := m
  obtain ⟨j1, j2⟩ := j
  show Calls Try.prog 3 #[.int .i64 op, .int .i64 a, .agg #[.int .u64 x1, .int .u64 x2], .agg #[.int .u64 y1, .int .u64 y2], .int .u64 n] w _
  go_enter Try.func3, Try.ntmps3
  go_upto_region 1 with (fail)
  have hB : Below w.heap.size w ((w.alloc (.cells #[.int .u64 x1, .int .u64 x2] 24)).alloc (.cells #[.int .u64 y1, .int .u64 y2] 24)) := (((Below.refl _ _).alloc (Nat.le_refl _) _).alloc (by simp) _)
  have hr0 : Sn.Bk ((w.alloc (.cells #[.int .u64 x1, .int .u64 x2] 24)).alloc (.cells #[.int .u64 y1, .int .u64 y2] 24)) (w.heap.size) 24 #[.int .u64 x1, .int .u64 x2] := Sn.bk_old (Sn.bk_new _ _ _) _
  have hr1 : Sn.Bk ((w.alloc (.cells #[.int .u64 x1, .int .u64 x2] 24)).alloc (.cells #[.int .u64 y1, .int .u64 y2] 24)) (w.heap.size + 1) 24 #[.int .u64 y1, .int .u64 y2] := Sn.bk_at (by simp)
  generalize ((w.alloc (.cells #[.int .u64 x1, .int .u64 x2] 24)).alloc (.cells #[.int .u64 y1, .int .u64 y2] 24)) = v at *
  have HB := Lib.hid hB
  have HR0 := Lib.hid hr0
  have HR1 := Lib.hid hr1
  clear hB hr0 hr1
  go_wp2_with fail
  refine (sn_awake v).mono ?_
  rintro e v2 ⟨rfl, hb⟩
  have hr0 := Sn.bk_below HR0.out hb (Sn.bk_lt HR0.out)
  have hr1 := Sn.bk_below HR1.out hb (Sn.bk_lt HR1.out)
  have hB := Sn.below_next HB.out hb HB.out.size
  clear HB HR0 HR1 hb
  have HB := Lib.hid hB
  have HR0 := Lib.hid hr0
  have HR1 := Lib.hid hr1
  clear hB hr0 hr1
  clear v
  rename World => v
  go_wp2_with fail
  refine qc_all (fun W => Below v.heap.size v W) (by kernel_rfl) (by kernel_rfl) (Below.refl _ _).drew ?_
  refine qc_take (.int .i64 op) (by rfl) (fun W (hW : Below _ _ W) => ?_) ?_
  · skip
    go_simp
  try simp only [Act.put, List.setIfInBounds_toArray, List.set_cons_zero, List.set_cons_succ]
  refine qc_take (.int .i64 a) (by rfl) (fun W (hW : Below _ _ W) => ?_) ?_
  · skip
    go_simp
  try simp only [Act.put, List.setIfInBounds_toArray, List.set_cons_zero, List.set_cons_succ]
  refine qc_take (.agg #[.int .u64 x1, .int .u64 x2]) (by rfl) (fun W (hW : Below _ _ W) => ?_) ?_
  · skip
    obtain ⟨y0, y1⟩ := Sn.c2 HR0.out hW
    go_simp
  try simp only [Act.put, List.setIfInBounds_toArray, List.set_cons_zero, List.set_cons_succ]
  refine qc_take (.agg #[.int .u64 y1, .int .u64 y2]) (by rfl) (fun W (hW : Below _ _ W) => ?_) ?_
  · skip
    obtain ⟨y0, y1⟩ := Sn.c2 HR1.out hW
    go_simp
  try simp only [Act.put, List.setIfInBounds_toArray, List.set_cons_zero, List.set_cons_succ]
  refine qc_take (.agg #[.int .u64 s1, .int .u64 s2]) (by rfl) (fun W (hW : Below _ _ W) => ?_) ?_
  · skip
    go_simp
    exact (A1.out W).mono fun e w9 h9 => ⟨h9.1, Sn.below_next hW h9.2 hW.size⟩
  try simp only [Act.put, List.setIfInBounds_toArray, List.set_cons_zero, List.set_cons_succ]
  refine qc_take (.int .i64 op) (by rfl) (fun W (hW : Below _ _ W) => ?_) ?_
  · skip
    go_simp
  try simp only [Act.put, List.setIfInBounds_toArray, List.set_cons_zero, List.set_cons_succ]
  refine qc_take (.int .i64 a) (by rfl) (fun W (hW : Below _ _ W) => ?_) ?_
  · skip
    go_simp
  try simp only [Act.put, List.setIfInBounds_toArray, List.set_cons_zero, List.set_cons_succ]
  refine qc_take (.agg #[.int .u64 x1, .int .u64 x2]) (by rfl) (fun W (hW : Below _ _ W) => ?_) ?_
  · skip
    obtain ⟨y0, y1⟩ := Sn.c2 HR0.out hW
    go_simp
  try simp only [Act.put, List.setIfInBounds_toArray, List.set_cons_zero, List.set_cons_succ]
  refine qc_take (.agg #[.int .u64 y1, .int .u64 y2]) (by rfl) (fun W (hW : Below _ _ W) => ?_) ?_
  · skip
    obtain ⟨y0, y1⟩ := Sn.c2 HR1.out hW
    go_simp
  try simp only [Act.put, List.setIfInBounds_toArray, List.set_cons_zero, List.set_cons_succ]
  refine qc_take (.agg #[.int .u64 s1, .int .u64 s2]) (by rfl) (fun W (hW : Below _ _ W) => ?_) ?_
  · skip
    go_simp
    exact (A2.out W).mono fun e w9 h9 => ⟨h9.1, Sn.below_next hW h9.2 hW.size⟩
  try simp only [Act.put, List.setIfInBounds_toArray, List.set_cons_zero, List.set_cons_succ]
  refine qc_take (.bool false) (by rfl) (fun W (hW : Below _ _ W) => ?_) ?_
  · skip
    go_simp
  try simp only [Act.put, List.setIfInBounds_toArray, List.set_cons_zero, List.set_cons_succ]
  refine qc_take (.bool false) (by rfl) (fun W (hW : Below _ _ W) => ?_) ?_
  · skip
    go_simp
  try simp only [Act.put, List.setIfInBounds_toArray, List.set_cons_zero, List.set_cons_succ]
  refine qc_take (.int .i64 a) (by rfl) (fun W (hW : Below _ _ W) => ?_) ?_
  · skip
    go_simp
  try simp only [Act.put, List.setIfInBounds_toArray, List.set_cons_zero, List.set_cons_succ]
  refine qc_take (.agg #[.int .u64 x1, .int .u64 x2]) (by rfl) (fun W (hW : Below _ _ W) => ?_) ?_
  · skip
    obtain ⟨y0, y1⟩ := Sn.c2 HR0.out hW
    go_simp
  try simp only [Act.put, List.setIfInBounds_toArray, List.set_cons_zero, List.set_cons_succ]
  refine qc_take (.agg #[.int .u64 p1, .int .u64 p2]) (by rfl) (fun W (hW : Below _ _ W) => ?_) ?_
  · skip
    go_simp
    exact (R1.out W).mono fun e w9 h9 => ⟨h9.1, Sn.below_next hW h9.2 hW.size⟩
  try simp only [Act.put, List.setIfInBounds_toArray, List.set_cons_zero, List.set_cons_succ]
  refine qc_take (.int .i64 a) (by rfl) (fun W (hW : Below _ _ W) => ?_) ?_
  · skip
    go_simp
  try simp only [Act.put, List.setIfInBounds_toArray, List.set_cons_zero, List.set_cons_succ]
  refine qc_take (.agg #[.int .u64 x1, .int .u64 x2]) (by rfl) (fun W (hW : Below _ _ W) => ?_) ?_
  · skip
    obtain ⟨y0, y1⟩ := Sn.c2 HR0.out hW
    go_simp
  try simp only [Act.put, List.setIfInBounds_toArray, List.set_cons_zero, List.set_cons_succ]
  refine qc_take (.agg #[.int .u64 p1, .int .u64 p2]) (by rfl) (fun W (hW : Below _ _ W) => ?_) ?_
  · skip
    go_simp
    exact (R2.out W).mono fun e w9 h9 => ⟨h9.1, Sn.below_next hW h9.2 hW.size⟩
  try simp only [Act.put, List.setIfInBounds_toArray, List.set_cons_zero, List.set_cons_succ]
  refine qc_take (.bool false) (by rfl) (fun W (hW : Below _ _ W) => ?_) ?_
  · skip
    go_simp
  try simp only [Act.put, List.setIfInBounds_toArray, List.set_cons_zero, List.set_cons_succ]
  refine qc_take (.bool false) (by rfl) (fun W (hW : Below _ _ W) => ?_) ?_
  · skip
    go_simp
  try simp only [Act.put, List.setIfInBounds_toArray, List.set_cons_zero, List.set_cons_succ]
  refine qc_take (.bool false) (by rfl) (fun W (hW : Below _ _ W) => ?_) ?_
  · skip
    go_simp
  try simp only [Act.put, List.setIfInBounds_toArray, List.set_cons_zero, List.set_cons_succ]
  refine qc_take (.int .i64 a) (by rfl) (fun W (hW : Below _ _ W) => ?_) ?_
  · skip
    go_simp
  try simp only [Act.put, List.setIfInBounds_toArray, List.set_cons_zero, List.set_cons_succ]
  refine qc_take (.agg #[.int .u64 x1, .int .u64 x2]) (by rfl) (fun W (hW : Below _ _ W) => ?_) ?_
  · skip
    obtain ⟨y0, y1⟩ := Sn.c2 HR0.out hW
    go_simp
  try simp only [Act.put, List.setIfInBounds_toArray, List.set_cons_zero, List.set_cons_succ]
  refine qc_take (.int .u64 n) (by rfl) (fun W (hW : Below _ _ W) => ?_) ?_
  · skip
    go_simp
  try simp only [Act.put, List.setIfInBounds_toArray, List.set_cons_zero, List.set_cons_succ]
  refine qc_take (.bool h) (by rfl) (fun W (hW : Below _ _ W) => ?_) ?_
  · skip
    go_simp
    exact (C1.out W).mono fun e w9 h9 => ⟨h9.1, Sn.below_next hW h9.2 hW.size⟩
  try simp only [Act.put, List.setIfInBounds_toArray, List.set_cons_zero, List.set_cons_succ]
  refine qc_take (.int .i64 a) (by rfl) (fun W (hW : Below _ _ W) => ?_) ?_
  · skip
    go_simp
  try simp only [Act.put, List.setIfInBounds_toArray, List.set_cons_zero, List.set_cons_succ]
  refine qc_take (.agg #[.int .u64 x1, .int .u64 x2]) (by rfl) (fun W (hW : Below _ _ W) => ?_) ?_
  · skip
    obtain ⟨y0, y1⟩ := Sn.c2 HR0.out hW
    go_simp
  try simp only [Act.put, List.setIfInBounds_toArray, List.set_cons_zero, List.set_cons_succ]
  refine qc_take (.int .u64 n) (by rfl) (fun W (hW : Below _ _ W) => ?_) ?_
  · skip
    go_simp
  try simp only [Act.put, List.setIfInBounds_toArray, List.set_cons_zero, List.set_cons_succ]
  refine qc_take (.bool h) (by rfl) (fun W (hW : Below _ _ W) => ?_) ?_
  · skip
    go_simp
    exact (C2.out W).mono fun e w9 h9 => ⟨h9.1, Sn.below_next hW h9.2 hW.size⟩
  try simp only [Act.put, List.setIfInBounds_toArray, List.set_cons_zero, List.set_cons_succ]
  refine qc_take (.bool false) (by rfl) (fun W (hW : Below _ _ W) => ?_) ?_
  · skip
    go_simp
  try simp only [Act.put, List.setIfInBounds_toArray, List.set_cons_zero, List.set_cons_succ]
  refine qc_take (.bool false) (by rfl) (fun W (hW : Below _ _ W) => ?_) ?_
  · skip
    go_simp
  try simp only [Act.put, List.setIfInBounds_toArray, List.set_cons_zero, List.set_cons_succ]
  refine wpQuiet_nil ?_
  intro v2 hb
  have hr0 := Sn.bk_below HR0.out hb (Sn.bk_lt HR0.out)
  have hr1 := Sn.bk_below HR1.out hb (Sn.bk_lt HR1.out)
  have hB := Sn.below_next HB.out hb HB.out.size
  clear HB HR0 HR1 hb
  have HB := Lib.hid hB
  have HR0 := Lib.hid hr0
  have HR1 := Lib.hid hr1
  clear hB hr0 hr1
  clear v
  rename World => v
  have c0_0 := Sn.bk_c HR0.out 0
  have c0_1 := Sn.bk_c HR0.out 1
  have c1_0 := Sn.bk_c HR1.out 0
  have c1_1 := Sn.bk_c HR1.out 1
  simp only [List.getElem?_toArray, List.getElem?_cons_zero, List.getElem?_cons_succ] at c0_0 c0_1 c1_0 c1_1
  go_wp2_with fail
  clear c0_0 c0_1 c1_0 c1_1
  refine (M1.out v).mono ?_
  rintro e v2 ⟨rfl, hb⟩
  have hr0 := Sn.bk_below HR0.out hb (Sn.bk_lt HR0.out)
  have hr1 := Sn.bk_below HR1.out hb (Sn.bk_lt HR1.out)
  have hB := Sn.below_next HB.out hb HB.out.size
  clear HB HR0 HR1 hb
  have HB := Lib.hid hB
  have HR0 := Lib.hid hr0
  have HR1 := Lib.hid hr1
  clear hB hr0 hr1
  clear v
  rename World => v
  go_upto_region 6 with (fail)
  have hB : Below w.heap.size w (v.alloc (.cells #[.int .u64 m1, .int .u64 m2] 24)) := (HB.out).alloc (by exact HB.out.size) _
  have hr0 : Sn.Bk (v.alloc (.cells #[.int .u64 m1, .int .u64 m2] 24)) (w.heap.size) 24 #[.int .u64 x1, .int .u64 x2] := Sn.bk_old (HR0.out) _
  have hr1 : Sn.Bk (v.alloc (.cells #[.int .u64 m1, .int .u64 m2] 24)) (w.heap.size + 1) 24 #[.int .u64 y1, .int .u64 y2] := Sn.bk_old (HR1.out) _
  have hr2 : Sn.Bk (v.alloc (.cells #[.int .u64 m1, .int .u64 m2] 24)) (v.heap.size) 24 #[.int .u64 m1, .int .u64 m2] := Sn.bk_new _ _ _
  clear HB HR0 HR1
  generalize (v.alloc (.cells #[.int .u64 m1, .int .u64 m2] 24)) = u at *
  generalize v.heap.size = b3 at *
  clear v
  rename World => v
  have HB := Lib.hid hB
  have HR0 := Lib.hid hr0
  have HR1 := Lib.hid hr1
  have HR2 := Lib.hid hr2
  clear hB hr0 hr1 hr2
  have c0_0 := Sn.bk_c HR0.out 0
  have c0_1 := Sn.bk_c HR0.out 1
  have c1_0 := Sn.bk_c HR1.out 0
  have c1_1 := Sn.bk_c HR1.out 1
  simp only [List.getElem?_toArray, List.getElem?_cons_zero, List.getElem?_cons_succ] at c0_0 c0_1 c1_0 c1_1
  go_wp2_with fail
  clear c0_0 c0_1 c1_0 c1_1
  refine (M2.out v).mono ?_
  rintro e v2 ⟨rfl, hb⟩
  have hr0 := Sn.bk_below HR0.out hb (Sn.bk_lt HR0.out)
  have hr1 := Sn.bk_below HR1.out hb (Sn.bk_lt HR1.out)
  have hr2 := Sn.bk_below HR2.out hb (Sn.bk_lt HR2.out)
  have hB := Sn.below_next HB.out hb HB.out.size
  clear HB HR0 HR1 HR2 hb
  have HB := Lib.hid hB
  have HR0 := Lib.hid hr0
  have HR1 := Lib.hid hr1
  have HR2 := Lib.hid hr2
  clear hB hr0 hr1 hr2
  clear v
  rename World => v
  go_upto_region 7 with (fail)
  have hB : Below w.heap.size w (v.alloc (.cells #[.int .u64 m1, .int .u64 m2] 24)) := (HB.out).alloc (by exact HB.out.size) _
  have hr0 : Sn.Bk (v.alloc (.cells #[.int .u64 m1, .int .u64 m2] 24)) (w.heap.size) 24 #[.int .u64 x1, .int .u64 x2] := Sn.bk_old (HR0.out) _
  have hr1 : Sn.Bk (v.alloc (.cells #[.int .u64 m1, .int .u64 m2] 24)) (w.heap.size + 1) 24 #[.int .u64 y1, .int .u64 y2] := Sn.bk_old (HR1.out) _
  have hr2 : Sn.Bk (v.alloc (.cells #[.int .u64 m1, .int .u64 m2] 24)) (b3) 24 #[.int .u64 m1, .int .u64 m2] := Sn.bk_old (HR2.out) _
  have hr3 : Sn.Bk (v.alloc (.cells #[.int .u64 m1, .int .u64 m2] 24)) (v.heap.size) 24 #[.int .u64 m1, .int .u64 m2] := Sn.bk_new _ _ _
  clear HB HR0 HR1 HR2
  generalize (v.alloc (.cells #[.int .u64 m1, .int .u64 m2] 24)) = u at *
  generalize v.heap.size = b4 at *
  clear v
  rename World => v
  have HB := Lib.hid hB
  have HR0 := Lib.hid hr0
  have HR1 := Lib.hid hr1
  have HR2 := Lib.hid hr2
  have HR3 := Lib.hid hr3
  clear hB hr0 hr1 hr2 hr3
  refine qc_all (fun W => Below v.heap.size v W) (by kernel_rfl) (by kernel_rfl) (Below.refl _ _).drew ?_
  refine qc_take (.agg #[.int .u64 m1, .int .u64 m2]) (by rfl) (fun W (hW : Below _ _ W) => ?_) ?_
  · skip
    obtain ⟨y0, y1⟩ := Sn.c2 HR2.out hW
    go_simp
  try simp only [Act.put, List.setIfInBounds_toArray, List.set_cons_zero, List.set_cons_succ]
  refine qc_take (.agg #[.int .u64 m1, .int .u64 m2]) (by rfl) (fun W (hW : Below _ _ W) => ?_) ?_
  · skip
    obtain ⟨y0, y1⟩ := Sn.c2 HR3.out hW
    go_simp
  try simp only [Act.put, List.setIfInBounds_toArray, List.set_cons_zero, List.set_cons_succ]
  refine qc_take (.bool true) (by rfl) (fun W (hW : Below _ _ W) => ?_) ?_
  · skip
    go_simp
  try simp only [Act.put, List.setIfInBounds_toArray, List.set_cons_zero, List.set_cons_succ]
  refine qc_take (.bool true) (by rfl) (fun W (hW : Below _ _ W) => ?_) ?_
  · skip
    go_simp
  try simp only [Act.put, List.setIfInBounds_toArray, List.set_cons_zero, List.set_cons_succ]
  refine qc_take (.bool ok) (by rfl) (fun W (hW : Below _ _ W) => ?_) ?_
  · skip
    go_simp
  try simp only [Act.put, List.setIfInBounds_toArray, List.set_cons_zero, List.set_cons_succ]
  refine qc_take (.bool ok) (by rfl) (fun W (hW : Below _ _ W) => ?_) ?_
  · skip
    go_simp
  try simp only [Act.put, List.setIfInBounds_toArray, List.set_cons_zero, List.set_cons_succ]
  refine qc_take (.bool true) (by rfl) (fun W (hW : Below _ _ W) => ?_) ?_
  · skip
    go_simp
  try simp only [Act.put, List.setIfInBounds_toArray, List.set_cons_zero, List.set_cons_succ]
  refine qc_take (.bool true) (by rfl) (fun W (hW : Below _ _ W) => ?_) ?_
  · skip
    go_simp
  try simp only [Act.put, List.setIfInBounds_toArray, List.set_cons_zero, List.set_cons_succ]
  refine qc_take (.bool true) (by rfl) (fun W (hW : Below _ _ W) => ?_) ?_
  · skip
    go_simp
  try simp only [Act.put, List.setIfInBounds_toArray, List.set_cons_zero, List.set_cons_succ]
  refine qc_take (.int .i64 a) (by rfl) (fun W (hW : Below _ _ W) => ?_) ?_
  · skip
    go_simp
  try simp only [Act.put, List.setIfInBounds_toArray, List.set_cons_zero, List.set_cons_succ]
  refine qc_take (.agg #[.int .u64 x1, .int .u64 x2]) (by rfl) (fun W (hW : Below _ _ W) => ?_) ?_
  · skip
    obtain ⟨y0, y1⟩ := Sn.c2 HR0.out hW
    go_simp
  try simp only [Act.put, List.setIfInBounds_toArray, List.set_cons_zero, List.set_cons_succ]
  refine qc_take (.agg #[.int .u64 y1, .int .u64 y2]) (by rfl) (fun W (hW : Below _ _ W) => ?_) ?_
  · skip
    obtain ⟨y0, y1⟩ := Sn.c2 HR1.out hW
    go_simp
  try simp only [Act.put, List.setIfInBounds_toArray, List.set_cons_zero, List.set_cons_succ]
  refine qc_take (.agg #[.int .u64 j1, .int .u64 j2]) (by rfl) (fun W (hW : Below _ _ W) => ?_) ?_
  · skip
    go_simp
    exact (J1.out W).mono fun e w9 h9 => ⟨h9.1, Sn.below_next hW h9.2 hW.size⟩
  try simp only [Act.put, List.setIfInBounds_toArray, List.set_cons_zero, List.set_cons_succ]
  refine qc_take (.int .i64 a) (by rfl) (fun W (hW : Below _ _ W) => ?_) ?_
  · skip
    go_simp
  try simp only [Act.put, List.setIfInBounds_toArray, List.set_cons_zero, List.set_cons_succ]
  refine qc_take (.agg #[.int .u64 x1, .int .u64 x2]) (by rfl) (fun W (hW : Below _ _ W) => ?_) ?_
  · skip
    obtain ⟨y0, y1⟩ := Sn.c2 HR0.out hW
    go_simp
  try simp only [Act.put, List.setIfInBounds_toArray, List.set_cons_zero, List.set_cons_succ]
  refine qc_take (.agg #[.int .u64 y1, .int .u64 y2]) (by rfl) (fun W (hW : Below _ _ W) => ?_) ?_
  · skip
    obtain ⟨y0, y1⟩ := Sn.c2 HR1.out hW
    go_simp
  try simp only [Act.put, List.setIfInBounds_toArray, List.set_cons_zero, List.set_cons_succ]
  refine qc_take (.agg #[.int .u64 j1, .int .u64 j2]) (by rfl) (fun W (hW : Below _ _ W) => ?_) ?_
  · skip
    go_simp
    exact (J2.out W).mono fun e w9 h9 => ⟨h9.1, Sn.below_next hW h9.2 hW.size⟩
  try simp only [Act.put, List.setIfInBounds_toArray, List.set_cons_zero, List.set_cons_succ]
  refine qc_take (.bool true) (by rfl) (fun W (hW : Below _ _ W) => ?_) ?_
  · skip
    go_simp
  try simp only [Act.put, List.setIfInBounds_toArray, List.set_cons_zero, List.set_cons_succ]
  refine qc_take (.bool true) (by rfl) (fun W (hW : Below _ _ W) => ?_) ?_
  · skip
    go_simp
  try simp only [Act.put, List.setIfInBounds_toArray, List.set_cons_zero, List.set_cons_succ]
  refine qc_take (.bool true) (by rfl) (fun W (hW : Below _ _ W) => ?_) ?_
  · skip
    go_simp
  try simp only [Act.put, List.setIfInBounds_toArray, List.set_cons_zero, List.set_cons_succ]
  refine wpQuiet_nil ?_
  intro v2 hb
  have hr0 := Sn.bk_below HR0.out hb (Sn.bk_lt HR0.out)
  have hB := Sn.below_next HB.out hb HB.out.size
  clear HB HR0 hb
  have HB := Lib.hid hB
  have HR0 := Lib.hid hr0
  clear hB hr0
  go_wp2_with fail
  go_ret
  exact ⟨rfl, HB.out⟩


end Go.Proofs.Ytbjckcjfambpoaa
