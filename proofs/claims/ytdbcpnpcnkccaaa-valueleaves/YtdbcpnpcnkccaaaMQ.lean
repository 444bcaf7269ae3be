/-
  The contract of the reference's Apply.
-/
import Derived.Test.YtdbcpnpcnkccaaaMP
set_option linter.unusedSimpArgs false
set_option linter.unusedVariables false
namespace Go.Proofs.Ytdbcpnpcnkccaaa
set_option maxRecDepth 100000
open Go.RowKit

set_option maxRecDepth 100000 in
set_option maxHeartbeats 2000000 in
theorem rap_none (op : Int) (a : Int) (x y n : Nat) (f g q r : Nat → Bool) (HN : Hid (Wd.wid a = n)) (HF : Hid (Wb.ofB n x = f)) (HG : Hid (Wb.ofB n y = g)) (HQ : Hid ((Wb.qr n f g).1 = q)) (HR : Hid ((Wb.qr n f g).2 = r)) (hx : x < 18446744073709551616) (hy : y < 18446744073709551616) (h1 : 1 ≤ n) (h2 : n ≤ 64) (o5 : (op == 5) = false) (o8 : (op == 8) = false) (o9 : (op == 9) = false) (o10 : (op == 10) = false) (o11 : (op == 11) = false) (o12 : (op == 12) = false) (o13 : (op == 13) = false) (o14 : (op == 14) = false) (o15 : (op == 15) = false) (o16 : (op == 16) = false) (o17 : (op == 17) = false) (o18 : (op == 18) = false) (o19 : (op == 19) = false) (o20 : (op == 20) = false) (o21 : (op == 21) = false) (w : World) :
    Calls Try.prog 109 #[.int .i64 op, .int .i64 a, .int .u64 x, .int .u64 y] w fun e w' => e = .returned (.int .u64 0) ∧ Below w.heap.size w w' := by
  go_enter Try.func109, Try.ntmps109
  go_wp2_with fail
  refine (wd_rwidth_any _ _).mono ?_
  rintro e w' ⟨rfl, rfl⟩
  rw [HN.out]
  go_wp2_with fail
  refine (of_any n x h2 hx _).mono ?_
  rintro e w1 ⟨rfl, hb1⟩
  rw [HF.out]
  go_wp2_with fail
  refine (of_any n y h2 hy _).mono ?_
  rintro e w2 ⟨rfl, hb2⟩
  rw [HG.out]
  have hs1 := hb1.size
  have hs2 := hb2.size
  have hbb := hb1.trans (hb2.mono hs1)
  have t0 := (Row.new w2 off).alloc (.cells (bw off) 161)
  have t1 := Row.new_at (w2.alloc (.cells (bw off) 161)) off (g := w2.heap.size + 1) (by simp)
  have u0 := t0.row_same f
  have u1 := t1.row_other (k := w2.heap.size) (by omega) (bw f)
  have v0 := u0.row_other (k := w2.heap.size + 1) (by omega) (bw g)
  have v1 := u1.row_same g
  have vb := below_setRow (below_setRow ((hbb.alloc (by omega) (.cells (bw off) 161)).alloc (by simp; omega) (.cells (bw off) 161)) (show w.heap.size ≤ w2.heap.size by omega) (bw f)) (show w.heap.size ≤ w2.heap.size + 1 by omega) (bw g)
  go_upto_region 3 with (first
    | (with_reducible refine alloc_row_at w2.heap.size rfl rfl rfl ?_)
    | (with_reducible refine alloc_row_at (w2.heap.size + 1) (by simp) rfl rfl ?_)
    | (with_reducible refine store_row (.tmp 10) (.tmp 18) _ _ f t0 rfl rfl rfl rfl ?_)
    | (with_reducible refine store_row (.tmp 11) (.tmp 21) _ _ g u1 rfl rfl rfl rfl ?_)
    | fail)
  clear t0 t1 u0 u1 hb1 hb2 hbb
  generalize (((w2.alloc (.cells (bw off) 161)).alloc (.cells (bw off) 161)).setRow w2.heap.size (bw f)).setRow (w2.heap.size + 1) (bw g) = W at *
  generalize w2.heap.size = G at *
  clear hs1 hs2
  go_wp2_with (first
    | (with_reducible refine load_row (.tmp 10) _ _ v0 rfl rfl rfl ?_)
    | (with_reducible refine load_row (.tmp 11) _ _ v1 rfl rfl rfl ?_)
    | fail)
  refine (rdiv_any n f g h1 h2 _).mono ?_
  rintro e w3 ⟨rfl, hb3⟩
  rw [HQ.out, HR.out]
  have x0 := ((v0.below hb3 v0.lt).alloc (.cells (bw off) 161)).alloc (.cells (bw off) 161)
  have x1 := ((v1.below hb3 v1.lt).alloc (.cells (bw off) 161)).alloc (.cells (bw off) 161)
  have l1 : G + 1 < w3.heap.size := by have := v1.lt; have := hb3.size; omega
  have hs3 : w.heap.size ≤ w3.heap.size := by have := hb3.size; have := vb.size; omega
  have t2 := (Row.new w3 off).alloc (.cells (bw off) 161)
  have t3 := Row.new_at (w3.alloc (.cells (bw off) 161)) off (g := w3.heap.size + 1) (by simp)
  have u3 := t3.row_other (k := w3.heap.size) (by omega) (bw q)
  have y0 := (x0.row_other (k := w3.heap.size) (by omega) (bw q)).row_other (k := w3.heap.size + 1) (by omega) (bw r)
  have y1 := (x1.row_other (k := w3.heap.size) (by omega) (bw q)).row_other (k := w3.heap.size + 1) (by omega) (bw r)
  have y2 := (t2.row_same q).row_other (k := w3.heap.size + 1) (by omega) (bw r)
  have y3 := u3.row_same r
  have yb := below_setRow (below_setRow ((((vb.trans (hb3.mono vb.size)).alloc (by omega) (.cells (bw off) 161)).alloc (by simp; omega) (.cells (bw off) 161))) (show w.heap.size ≤ w3.heap.size by omega) (bw q)) (show w.heap.size ≤ w3.heap.size + 1 by omega) (bw r)
  go_upto_region 4 with (first
    | (with_reducible refine alloc_row_at w3.heap.size rfl rfl rfl ?_)
    | (with_reducible refine alloc_row_at (w3.heap.size + 1) (by simp) rfl rfl ?_)
    | (with_reducible refine store_row (.tmp 12) (.tmp 27) _ _ q t2 rfl rfl rfl rfl ?_)
    | (with_reducible refine store_row (.tmp 13) (.tmp 28) _ _ r u3 rfl rfl rfl rfl ?_)
    | fail)
  clear t2 t3 u3 x0 x1 v0 v1 hb3 vb hs3
  generalize (((w3.alloc (.cells (bw off) 161)).alloc (.cells (bw off) 161)).setRow w3.heap.size (bw q)).setRow (w3.heap.size + 1) (bw r) = V at *
  generalize w3.heap.size = H at *
  clear W
  go_wp2
  go_ret
  exact ⟨rfl, yb⟩

set_option maxRecDepth 100000 in
set_option maxHeartbeats 2000000 in
theorem rap_not (a : Int) (x y n : Nat) (f g q r : Nat → Bool) (HN : Hid (Wd.wid a = n)) (HF : Hid (Wb.ofB n x = f)) (HG : Hid (Wb.ofB n y = g)) (HQ : Hid ((Wb.qr n f g).1 = q)) (HR : Hid ((Wb.qr n f g).2 = r)) (hx : x < 18446744073709551616) (hy : y < 18446744073709551616) (h1 : 1 ≤ n) (h2 : n ≤ 64) (w : World) :
    Calls Try.prog 109 #[.int .i64 5, .int .i64 a, .int .u64 x, .int .u64 y] w fun e w' => e = .returned (.int .u64 (Wb.val (Wb.notB n f) 64 : Nat)) ∧ Below w.heap.size w w' := by
  go_enter Try.func109, Try.ntmps109
  go_wp2_with fail
  refine (wd_rwidth_any _ _).mono ?_
  rintro e w' ⟨rfl, rfl⟩
  rw [HN.out]
  go_wp2_with fail
  refine (of_any n x h2 hx _).mono ?_
  rintro e w1 ⟨rfl, hb1⟩
  rw [HF.out]
  go_wp2_with fail
  refine (of_any n y h2 hy _).mono ?_
  rintro e w2 ⟨rfl, hb2⟩
  rw [HG.out]
  have hs1 := hb1.size
  have hs2 := hb2.size
  have hbb := hb1.trans (hb2.mono hs1)
  have t0 := (Row.new w2 off).alloc (.cells (bw off) 161)
  have t1 := Row.new_at (w2.alloc (.cells (bw off) 161)) off (g := w2.heap.size + 1) (by simp)
  have u0 := t0.row_same f
  have u1 := t1.row_other (k := w2.heap.size) (by omega) (bw f)
  have v0 := u0.row_other (k := w2.heap.size + 1) (by omega) (bw g)
  have v1 := u1.row_same g
  have vb := below_setRow (below_setRow ((hbb.alloc (by omega) (.cells (bw off) 161)).alloc (by simp; omega) (.cells (bw off) 161)) (show w.heap.size ≤ w2.heap.size by omega) (bw f)) (show w.heap.size ≤ w2.heap.size + 1 by omega) (bw g)
  go_upto_region 3 with (first
    | (with_reducible refine alloc_row_at w2.heap.size rfl rfl rfl ?_)
    | (with_reducible refine alloc_row_at (w2.heap.size + 1) (by simp) rfl rfl ?_)
    | (with_reducible refine store_row (.tmp 10) (.tmp 18) _ _ f t0 rfl rfl rfl rfl ?_)
    | (with_reducible refine store_row (.tmp 11) (.tmp 21) _ _ g u1 rfl rfl rfl rfl ?_)
    | fail)
  clear t0 t1 u0 u1 hb1 hb2 hbb
  generalize (((w2.alloc (.cells (bw off) 161)).alloc (.cells (bw off) 161)).setRow w2.heap.size (bw f)).setRow (w2.heap.size + 1) (bw g) = W at *
  generalize w2.heap.size = G at *
  clear hs1 hs2
  go_wp2_with (first
    | (with_reducible refine load_row (.tmp 10) _ _ v0 rfl rfl rfl ?_)
    | (with_reducible refine load_row (.tmp 11) _ _ v1 rfl rfl rfl ?_)
    | fail)
  refine (rdiv_any n f g h1 h2 _).mono ?_
  rintro e w3 ⟨rfl, hb3⟩
  rw [HQ.out, HR.out]
  have x0 := ((v0.below hb3 v0.lt).alloc (.cells (bw off) 161)).alloc (.cells (bw off) 161)
  have x1 := ((v1.below hb3 v1.lt).alloc (.cells (bw off) 161)).alloc (.cells (bw off) 161)
  have l1 : G + 1 < w3.heap.size := by have := v1.lt; have := hb3.size; omega
  have hs3 : w.heap.size ≤ w3.heap.size := by have := hb3.size; have := vb.size; omega
  have t2 := (Row.new w3 off).alloc (.cells (bw off) 161)
  have t3 := Row.new_at (w3.alloc (.cells (bw off) 161)) off (g := w3.heap.size + 1) (by simp)
  have u3 := t3.row_other (k := w3.heap.size) (by omega) (bw q)
  have y0 := (x0.row_other (k := w3.heap.size) (by omega) (bw q)).row_other (k := w3.heap.size + 1) (by omega) (bw r)
  have y1 := (x1.row_other (k := w3.heap.size) (by omega) (bw q)).row_other (k := w3.heap.size + 1) (by omega) (bw r)
  have y2 := (t2.row_same q).row_other (k := w3.heap.size + 1) (by omega) (bw r)
  have y3 := u3.row_same r
  have yb := below_setRow (below_setRow ((((vb.trans (hb3.mono vb.size)).alloc (by omega) (.cells (bw off) 161)).alloc (by simp; omega) (.cells (bw off) 161))) (show w.heap.size ≤ w3.heap.size by omega) (bw q)) (show w.heap.size ≤ w3.heap.size + 1 by omega) (bw r)
  go_upto_region 4 with (first
    | (with_reducible refine alloc_row_at w3.heap.size rfl rfl rfl ?_)
    | (with_reducible refine alloc_row_at (w3.heap.size + 1) (by simp) rfl rfl ?_)
    | (with_reducible refine store_row (.tmp 12) (.tmp 27) _ _ q t2 rfl rfl rfl rfl ?_)
    | (with_reducible refine store_row (.tmp 13) (.tmp 28) _ _ r u3 rfl rfl rfl rfl ?_)
    | fail)
  clear t2 t3 u3 x0 x1 v0 v1 hb3 vb hs3
  generalize (((w3.alloc (.cells (bw off) 161)).alloc (.cells (bw off) 161)).setRow w3.heap.size (bw q)).setRow (w3.heap.size + 1) (bw r) = V at *
  generalize w3.heap.size = H at *
  clear W
  go_wp2_with (first
    | (with_reducible refine load_row (.tmp 10) _ _ y0 rfl rfl rfl ?_)
    | (with_reducible refine load_row (.tmp 11) _ _ y1 rfl rfl rfl ?_)
    | fail)
  refine (not_any n f h2 _).mono ?_
  rintro e w4 ⟨rfl, b4⟩
  go_wp2_with fail
  refine (num_any _ _).mono ?_
  rintro e w5 ⟨rfl, b5⟩
  go_wp2
  go_ret
  have hb := yb.trans (b4.mono yb.size)
  exact ⟨rfl, hb.trans (b5.mono hb.size)⟩

set_option maxRecDepth 100000 in
set_option maxHeartbeats 2000000 in
theorem rap_add (a : Int) (x y n : Nat) (f g q r : Nat → Bool) (HN : Hid (Wd.wid a = n)) (HF : Hid (Wb.ofB n x = f)) (HG : Hid (Wb.ofB n y = g)) (HQ : Hid ((Wb.qr n f g).1 = q)) (HR : Hid ((Wb.qr n f g).2 = r)) (hx : x < 18446744073709551616) (hy : y < 18446744073709551616) (h1 : 1 ≤ n) (h2 : n ≤ 64) (w : World) :
    Calls Try.prog 109 #[.int .i64 8, .int .i64 a, .int .u64 x, .int .u64 y] w fun e w' => e = .returned (.int .u64 (Wb.val (Wb.addB n f g false) 64 : Nat)) ∧ Below w.heap.size w w' := by
  go_enter Try.func109, Try.ntmps109
  go_wp2_with fail
  refine (wd_rwidth_any _ _).mono ?_
  rintro e w' ⟨rfl, rfl⟩
  rw [HN.out]
  go_wp2_with fail
  refine (of_any n x h2 hx _).mono ?_
  rintro e w1 ⟨rfl, hb1⟩
  rw [HF.out]
  go_wp2_with fail
  refine (of_any n y h2 hy _).mono ?_
  rintro e w2 ⟨rfl, hb2⟩
  rw [HG.out]
  have hs1 := hb1.size
  have hs2 := hb2.size
  have hbb := hb1.trans (hb2.mono hs1)
  have t0 := (Row.new w2 off).alloc (.cells (bw off) 161)
  have t1 := Row.new_at (w2.alloc (.cells (bw off) 161)) off (g := w2.heap.size + 1) (by simp)
  have u0 := t0.row_same f
  have u1 := t1.row_other (k := w2.heap.size) (by omega) (bw f)
  have v0 := u0.row_other (k := w2.heap.size + 1) (by omega) (bw g)
  have v1 := u1.row_same g
  have vb := below_setRow (below_setRow ((hbb.alloc (by omega) (.cells (bw off) 161)).alloc (by simp; omega) (.cells (bw off) 161)) (show w.heap.size ≤ w2.heap.size by omega) (bw f)) (show w.heap.size ≤ w2.heap.size + 1 by omega) (bw g)
  go_upto_region 3 with (first
    | (with_reducible refine alloc_row_at w2.heap.size rfl rfl rfl ?_)
    | (with_reducible refine alloc_row_at (w2.heap.size + 1) (by simp) rfl rfl ?_)
    | (with_reducible refine store_row (.tmp 10) (.tmp 18) _ _ f t0 rfl rfl rfl rfl ?_)
    | (with_reducible refine store_row (.tmp 11) (.tmp 21) _ _ g u1 rfl rfl rfl rfl ?_)
    | fail)
  clear t0 t1 u0 u1 hb1 hb2 hbb
  generalize (((w2.alloc (.cells (bw off) 161)).alloc (.cells (bw off) 161)).setRow w2.heap.size (bw f)).setRow (w2.heap.size + 1) (bw g) = W at *
  generalize w2.heap.size = G at *
  clear hs1 hs2
  go_wp2_with (first
    | (with_reducible refine load_row (.tmp 10) _ _ v0 rfl rfl rfl ?_)
    | (with_reducible refine load_row (.tmp 11) _ _ v1 rfl rfl rfl ?_)
    | fail)
  refine (rdiv_any n f g h1 h2 _).mono ?_
  rintro e w3 ⟨rfl, hb3⟩
  rw [HQ.out, HR.out]
  have x0 := ((v0.below hb3 v0.lt).alloc (.cells (bw off) 161)).alloc (.cells (bw off) 161)
  have x1 := ((v1.below hb3 v1.lt).alloc (.cells (bw off) 161)).alloc (.cells (bw off) 161)
  have l1 : G + 1 < w3.heap.size := by have := v1.lt; have := hb3.size; omega
  have hs3 : w.heap.size ≤ w3.heap.size := by have := hb3.size; have := vb.size; omega
  have t2 := (Row.new w3 off).alloc (.cells (bw off) 161)
  have t3 := Row.new_at (w3.alloc (.cells (bw off) 161)) off (g := w3.heap.size + 1) (by simp)
  have u3 := t3.row_other (k := w3.heap.size) (by omega) (bw q)
  have y0 := (x0.row_other (k := w3.heap.size) (by omega) (bw q)).row_other (k := w3.heap.size + 1) (by omega) (bw r)
  have y1 := (x1.row_other (k := w3.heap.size) (by omega) (bw q)).row_other (k := w3.heap.size + 1) (by omega) (bw r)
  have y2 := (t2.row_same q).row_other (k := w3.heap.size + 1) (by omega) (bw r)
  have y3 := u3.row_same r
  have yb := below_setRow (below_setRow ((((vb.trans (hb3.mono vb.size)).alloc (by omega) (.cells (bw off) 161)).alloc (by simp; omega) (.cells (bw off) 161))) (show w.heap.size ≤ w3.heap.size by omega) (bw q)) (show w.heap.size ≤ w3.heap.size + 1 by omega) (bw r)
  go_upto_region 4 with (first
    | (with_reducible refine alloc_row_at w3.heap.size rfl rfl rfl ?_)
    | (with_reducible refine alloc_row_at (w3.heap.size + 1) (by simp) rfl rfl ?_)
    | (with_reducible refine store_row (.tmp 12) (.tmp 27) _ _ q t2 rfl rfl rfl rfl ?_)
    | (with_reducible refine store_row (.tmp 13) (.tmp 28) _ _ r u3 rfl rfl rfl rfl ?_)
    | fail)
  clear t2 t3 u3 x0 x1 v0 v1 hb3 vb hs3
  generalize (((w3.alloc (.cells (bw off) 161)).alloc (.cells (bw off) 161)).setRow w3.heap.size (bw q)).setRow (w3.heap.size + 1) (bw r) = V at *
  generalize w3.heap.size = H at *
  clear W
  go_wp2_with (first
    | (with_reducible refine load_row (.tmp 10) _ _ y0 rfl rfl rfl ?_)
    | (with_reducible refine load_row (.tmp 11) _ _ y1 rfl rfl rfl ?_)
    | fail)
  refine (add_any n f g false h2 _).mono ?_
  rintro e w4 ⟨rfl, b4⟩
  go_wp2_with fail
  refine (num_any _ _).mono ?_
  rintro e w5 ⟨rfl, b5⟩
  go_wp2
  go_ret
  have hb := yb.trans (b4.mono yb.size)
  exact ⟨rfl, hb.trans (b5.mono hb.size)⟩

set_option maxRecDepth 100000 in
set_option maxHeartbeats 2000000 in
theorem rap_mul (a : Int) (x y n : Nat) (f g q r : Nat → Bool) (HN : Hid (Wd.wid a = n)) (HF : Hid (Wb.ofB n x = f)) (HG : Hid (Wb.ofB n y = g)) (HQ : Hid ((Wb.qr n f g).1 = q)) (HR : Hid ((Wb.qr n f g).2 = r)) (hx : x < 18446744073709551616) (hy : y < 18446744073709551616) (h1 : 1 ≤ n) (h2 : n ≤ 64) (w : World) :
    Calls Try.prog 109 #[.int .i64 10, .int .i64 a, .int .u64 x, .int .u64 y] w fun e w' => e = .returned (.int .u64 (Wb.val (Wb.mulO n f g n) 64 : Nat)) ∧ Below w.heap.size w w' := by
  go_enter Try.func109, Try.ntmps109
  go_wp2_with fail
  refine (wd_rwidth_any _ _).mono ?_
  rintro e w' ⟨rfl, rfl⟩
  rw [HN.out]
  go_wp2_with fail
  refine (of_any n x h2 hx _).mono ?_
  rintro e w1 ⟨rfl, hb1⟩
  rw [HF.out]
  go_wp2_with fail
  refine (of_any n y h2 hy _).mono ?_
  rintro e w2 ⟨rfl, hb2⟩
  rw [HG.out]
  have hs1 := hb1.size
  have hs2 := hb2.size
  have hbb := hb1.trans (hb2.mono hs1)
  have t0 := (Row.new w2 off).alloc (.cells (bw off) 161)
  have t1 := Row.new_at (w2.alloc (.cells (bw off) 161)) off (g := w2.heap.size + 1) (by simp)
  have u0 := t0.row_same f
  have u1 := t1.row_other (k := w2.heap.size) (by omega) (bw f)
  have v0 := u0.row_other (k := w2.heap.size + 1) (by omega) (bw g)
  have v1 := u1.row_same g
  have vb := below_setRow (below_setRow ((hbb.alloc (by omega) (.cells (bw off) 161)).alloc (by simp; omega) (.cells (bw off) 161)) (show w.heap.size ≤ w2.heap.size by omega) (bw f)) (show w.heap.size ≤ w2.heap.size + 1 by omega) (bw g)
  go_upto_region 3 with (first
    | (with_reducible refine alloc_row_at w2.heap.size rfl rfl rfl ?_)
    | (with_reducible refine alloc_row_at (w2.heap.size + 1) (by simp) rfl rfl ?_)
    | (with_reducible refine store_row (.tmp 10) (.tmp 18) _ _ f t0 rfl rfl rfl rfl ?_)
    | (with_reducible refine store_row (.tmp 11) (.tmp 21) _ _ g u1 rfl rfl rfl rfl ?_)
    | fail)
  clear t0 t1 u0 u1 hb1 hb2 hbb
  generalize (((w2.alloc (.cells (bw off) 161)).alloc (.cells (bw off) 161)).setRow w2.heap.size (bw f)).setRow (w2.heap.size + 1) (bw g) = W at *
  generalize w2.heap.size = G at *
  clear hs1 hs2
  go_wp2_with (first
    | (with_reducible refine load_row (.tmp 10) _ _ v0 rfl rfl rfl ?_)
    | (with_reducible refine load_row (.tmp 11) _ _ v1 rfl rfl rfl ?_)
    | fail)
  refine (rdiv_any n f g h1 h2 _).mono ?_
  rintro e w3 ⟨rfl, hb3⟩
  rw [HQ.out, HR.out]
  have x0 := ((v0.below hb3 v0.lt).alloc (.cells (bw off) 161)).alloc (.cells (bw off) 161)
  have x1 := ((v1.below hb3 v1.lt).alloc (.cells (bw off) 161)).alloc (.cells (bw off) 161)
  have l1 : G + 1 < w3.heap.size := by have := v1.lt; have := hb3.size; omega
  have hs3 : w.heap.size ≤ w3.heap.size := by have := hb3.size; have := vb.size; omega
  have t2 := (Row.new w3 off).alloc (.cells (bw off) 161)
  have t3 := Row.new_at (w3.alloc (.cells (bw off) 161)) off (g := w3.heap.size + 1) (by simp)
  have u3 := t3.row_other (k := w3.heap.size) (by omega) (bw q)
  have y0 := (x0.row_other (k := w3.heap.size) (by omega) (bw q)).row_other (k := w3.heap.size + 1) (by omega) (bw r)
  have y1 := (x1.row_other (k := w3.heap.size) (by omega) (bw q)).row_other (k := w3.heap.size + 1) (by omega) (bw r)
  have y2 := (t2.row_same q).row_other (k := w3.heap.size + 1) (by omega) (bw r)
  have y3 := u3.row_same r
  have yb := below_setRow (below_setRow ((((vb.trans (hb3.mono vb.size)).alloc (by omega) (.cells (bw off) 161)).alloc (by simp; omega) (.cells (bw off) 161))) (show w.heap.size ≤ w3.heap.size by omega) (bw q)) (show w.heap.size ≤ w3.heap.size + 1 by omega) (bw r)
  go_upto_region 4 with (first
    | (with_reducible refine alloc_row_at w3.heap.size rfl rfl rfl ?_)
    | (with_reducible refine alloc_row_at (w3.heap.size + 1) (by simp) rfl rfl ?_)
    | (with_reducible refine store_row (.tmp 12) (.tmp 27) _ _ q t2 rfl rfl rfl rfl ?_)
    | (with_reducible refine store_row (.tmp 13) (.tmp 28) _ _ r u3 rfl rfl rfl rfl ?_)
    | fail)
  clear t2 t3 u3 x0 x1 v0 v1 hb3 vb hs3
  generalize (((w3.alloc (.cells (bw off) 161)).alloc (.cells (bw off) 161)).setRow w3.heap.size (bw q)).setRow (w3.heap.size + 1) (bw r) = V at *
  generalize w3.heap.size = H at *
  clear W
  go_wp2_with (first
    | (with_reducible refine load_row (.tmp 10) _ _ y0 rfl rfl rfl ?_)
    | (with_reducible refine load_row (.tmp 11) _ _ y1 rfl rfl rfl ?_)
    | fail)
  refine (mul_any n f g h1 h2 _).mono ?_
  rintro e w4 ⟨rfl, b4⟩
  go_wp2_with fail
  refine (num_any _ _).mono ?_
  rintro e w5 ⟨rfl, b5⟩
  go_wp2
  go_ret
  have hb := yb.trans (b4.mono yb.size)
  exact ⟨rfl, hb.trans (b5.mono hb.size)⟩

set_option maxRecDepth 100000 in
set_option maxHeartbeats 2000000 in
theorem rap_div (a : Int) (x y n : Nat) (f g q r : Nat → Bool) (HN : Hid (Wd.wid a = n)) (HF : Hid (Wb.ofB n x = f)) (HG : Hid (Wb.ofB n y = g)) (HQ : Hid ((Wb.qr n f g).1 = q)) (HR : Hid ((Wb.qr n f g).2 = r)) (hx : x < 18446744073709551616) (hy : y < 18446744073709551616) (h1 : 1 ≤ n) (h2 : n ≤ 64) (w : World) :
    Calls Try.prog 109 #[.int .i64 11, .int .i64 a, .int .u64 x, .int .u64 y] w fun e w' => e = .returned (.int .u64 (Wb.val q 64 : Nat)) ∧ Below w.heap.size w w' := by
  go_enter Try.func109, Try.ntmps109
  go_wp2_with fail
  refine (wd_rwidth_any _ _).mono ?_
  rintro e w' ⟨rfl, rfl⟩
  rw [HN.out]
  go_wp2_with fail
  refine (of_any n x h2 hx _).mono ?_
  rintro e w1 ⟨rfl, hb1⟩
  rw [HF.out]
  go_wp2_with fail
  refine (of_any n y h2 hy _).mono ?_
  rintro e w2 ⟨rfl, hb2⟩
  rw [HG.out]
  have hs1 := hb1.size
  have hs2 := hb2.size
  have hbb := hb1.trans (hb2.mono hs1)
  have t0 := (Row.new w2 off).alloc (.cells (bw off) 161)
  have t1 := Row.new_at (w2.alloc (.cells (bw off) 161)) off (g := w2.heap.size + 1) (by simp)
  have u0 := t0.row_same f
  have u1 := t1.row_other (k := w2.heap.size) (by omega) (bw f)
  have v0 := u0.row_other (k := w2.heap.size + 1) (by omega) (bw g)
  have v1 := u1.row_same g
  have vb := below_setRow (below_setRow ((hbb.alloc (by omega) (.cells (bw off) 161)).alloc (by simp; omega) (.cells (bw off) 161)) (show w.heap.size ≤ w2.heap.size by omega) (bw f)) (show w.heap.size ≤ w2.heap.size + 1 by omega) (bw g)
  go_upto_region 3 with (first
    | (with_reducible refine alloc_row_at w2.heap.size rfl rfl rfl ?_)
    | (with_reducible refine alloc_row_at (w2.heap.size + 1) (by simp) rfl rfl ?_)
    | (with_reducible refine store_row (.tmp 10) (.tmp 18) _ _ f t0 rfl rfl rfl rfl ?_)
    | (with_reducible refine store_row (.tmp 11) (.tmp 21) _ _ g u1 rfl rfl rfl rfl ?_)
    | fail)
  clear t0 t1 u0 u1 hb1 hb2 hbb
  generalize (((w2.alloc (.cells (bw off) 161)).alloc (.cells (bw off) 161)).setRow w2.heap.size (bw f)).setRow (w2.heap.size + 1) (bw g) = W at *
  generalize w2.heap.size = G at *
  clear hs1 hs2
  go_wp2_with (first
    | (with_reducible refine load_row (.tmp 10) _ _ v0 rfl rfl rfl ?_)
    | (with_reducible refine load_row (.tmp 11) _ _ v1 rfl rfl rfl ?_)
    | fail)
  refine (rdiv_any n f g h1 h2 _).mono ?_
  rintro e w3 ⟨rfl, hb3⟩
  rw [HQ.out, HR.out]
  have x0 := ((v0.below hb3 v0.lt).alloc (.cells (bw off) 161)).alloc (.cells (bw off) 161)
  have x1 := ((v1.below hb3 v1.lt).alloc (.cells (bw off) 161)).alloc (.cells (bw off) 161)
  have l1 : G + 1 < w3.heap.size := by have := v1.lt; have := hb3.size; omega
  have hs3 : w.heap.size ≤ w3.heap.size := by have := hb3.size; have := vb.size; omega
  have t2 := (Row.new w3 off).alloc (.cells (bw off) 161)
  have t3 := Row.new_at (w3.alloc (.cells (bw off) 161)) off (g := w3.heap.size + 1) (by simp)
  have u3 := t3.row_other (k := w3.heap.size) (by omega) (bw q)
  have y0 := (x0.row_other (k := w3.heap.size) (by omega) (bw q)).row_other (k := w3.heap.size + 1) (by omega) (bw r)
  have y1 := (x1.row_other (k := w3.heap.size) (by omega) (bw q)).row_other (k := w3.heap.size + 1) (by omega) (bw r)
  have y2 := (t2.row_same q).row_other (k := w3.heap.size + 1) (by omega) (bw r)
  have y3 := u3.row_same r
  have yb := below_setRow (below_setRow ((((vb.trans (hb3.mono vb.size)).alloc (by omega) (.cells (bw off) 161)).alloc (by simp; omega) (.cells (bw off) 161))) (show w.heap.size ≤ w3.heap.size by omega) (bw q)) (show w.heap.size ≤ w3.heap.size + 1 by omega) (bw r)
  go_upto_region 4 with (first
    | (with_reducible refine alloc_row_at w3.heap.size rfl rfl rfl ?_)
    | (with_reducible refine alloc_row_at (w3.heap.size + 1) (by simp) rfl rfl ?_)
    | (with_reducible refine store_row (.tmp 12) (.tmp 27) _ _ q t2 rfl rfl rfl rfl ?_)
    | (with_reducible refine store_row (.tmp 13) (.tmp 28) _ _ r u3 rfl rfl rfl rfl ?_)
    | fail)
  clear t2 t3 u3 x0 x1 v0 v1 hb3 vb hs3
  generalize (((w3.alloc (.cells (bw off) 161)).alloc (.cells (bw off) 161)).setRow w3.heap.size (bw q)).setRow (w3.heap.size + 1) (bw r) = V at *
  generalize w3.heap.size = H at *
  clear W
  go_wp2_with (first
    | (with_reducible refine load_row (.tmp 12) _ _ y2 rfl rfl rfl ?_)
    | fail)
  refine (num_any _ _).mono ?_
  rintro e w5 ⟨rfl, b5⟩
  go_wp2
  go_ret
  exact ⟨rfl, yb.trans (b5.mono yb.size)⟩

set_option maxRecDepth 100000 in
set_option maxHeartbeats 2000000 in
theorem rap_rem (a : Int) (x y n : Nat) (f g q r : Nat → Bool) (HN : Hid (Wd.wid a = n)) (HF : Hid (Wb.ofB n x = f)) (HG : Hid (Wb.ofB n y = g)) (HQ : Hid ((Wb.qr n f g).1 = q)) (HR : Hid ((Wb.qr n f g).2 = r)) (hx : x < 18446744073709551616) (hy : y < 18446744073709551616) (h1 : 1 ≤ n) (h2 : n ≤ 64) (w : World) :
    Calls Try.prog 109 #[.int .i64 12, .int .i64 a, .int .u64 x, .int .u64 y] w fun e w' => e = .returned (.int .u64 (Wb.val r 64 : Nat)) ∧ Below w.heap.size w w' := by
  go_enter Try.func109, Try.ntmps109
  go_wp2_with fail
  refine (wd_rwidth_any _ _).mono ?_
  rintro e w' ⟨rfl, rfl⟩
  rw [HN.out]
  go_wp2_with fail
  refine (of_any n x h2 hx _).mono ?_
  rintro e w1 ⟨rfl, hb1⟩
  rw [HF.out]
  go_wp2_with fail
  refine (of_any n y h2 hy _).mono ?_
  rintro e w2 ⟨rfl, hb2⟩
  rw [HG.out]
  have hs1 := hb1.size
  have hs2 := hb2.size
  have hbb := hb1.trans (hb2.mono hs1)
  have t0 := (Row.new w2 off).alloc (.cells (bw off) 161)
  have t1 := Row.new_at (w2.alloc (.cells (bw off) 161)) off (g := w2.heap.size + 1) (by simp)
  have u0 := t0.row_same f
  have u1 := t1.row_other (k := w2.heap.size) (by omega) (bw f)
  have v0 := u0.row_other (k := w2.heap.size + 1) (by omega) (bw g)
  have v1 := u1.row_same g
  have vb := below_setRow (below_setRow ((hbb.alloc (by omega) (.cells (bw off) 161)).alloc (by simp; omega) (.cells (bw off) 161)) (show w.heap.size ≤ w2.heap.size by omega) (bw f)) (show w.heap.size ≤ w2.heap.size + 1 by omega) (bw g)
  go_upto_region 3 with (first
    | (with_reducible refine alloc_row_at w2.heap.size rfl rfl rfl ?_)
    | (with_reducible refine alloc_row_at (w2.heap.size + 1) (by simp) rfl rfl ?_)
    | (with_reducible refine store_row (.tmp 10) (.tmp 18) _ _ f t0 rfl rfl rfl rfl ?_)
    | (with_reducible refine store_row (.tmp 11) (.tmp 21) _ _ g u1 rfl rfl rfl rfl ?_)
    | fail)
  clear t0 t1 u0 u1 hb1 hb2 hbb
  generalize (((w2.alloc (.cells (bw off) 161)).alloc (.cells (bw off) 161)).setRow w2.heap.size (bw f)).setRow (w2.heap.size + 1) (bw g) = W at *
  generalize w2.heap.size = G at *
  clear hs1 hs2
  go_wp2_with (first
    | (with_reducible refine load_row (.tmp 10) _ _ v0 rfl rfl rfl ?_)
    | (with_reducible refine load_row (.tmp 11) _ _ v1 rfl rfl rfl ?_)
    | fail)
  refine (rdiv_any n f g h1 h2 _).mono ?_
  rintro e w3 ⟨rfl, hb3⟩
  rw [HQ.out, HR.out]
  have x0 := ((v0.below hb3 v0.lt).alloc (.cells (bw off) 161)).alloc (.cells (bw off) 161)
  have x1 := ((v1.below hb3 v1.lt).alloc (.cells (bw off) 161)).alloc (.cells (bw off) 161)
  have l1 : G + 1 < w3.heap.size := by have := v1.lt; have := hb3.size; omega
  have hs3 : w.heap.size ≤ w3.heap.size := by have := hb3.size; have := vb.size; omega
  have t2 := (Row.new w3 off).alloc (.cells (bw off) 161)
  have t3 := Row.new_at (w3.alloc (.cells (bw off) 161)) off (g := w3.heap.size + 1) (by simp)
  have u3 := t3.row_other (k := w3.heap.size) (by omega) (bw q)
  have y0 := (x0.row_other (k := w3.heap.size) (by omega) (bw q)).row_other (k := w3.heap.size + 1) (by omega) (bw r)
  have y1 := (x1.row_other (k := w3.heap.size) (by omega) (bw q)).row_other (k := w3.heap.size + 1) (by omega) (bw r)
  have y2 := (t2.row_same q).row_other (k := w3.heap.size + 1) (by omega) (bw r)
  have y3 := u3.row_same r
  have yb := below_setRow (below_setRow ((((vb.trans (hb3.mono vb.size)).alloc (by omega) (.cells (bw off) 161)).alloc (by simp; omega) (.cells (bw off) 161))) (show w.heap.size ≤ w3.heap.size by omega) (bw q)) (show w.heap.size ≤ w3.heap.size + 1 by omega) (bw r)
  go_upto_region 4 with (first
    | (with_reducible refine alloc_row_at w3.heap.size rfl rfl rfl ?_)
    | (with_reducible refine alloc_row_at (w3.heap.size + 1) (by simp) rfl rfl ?_)
    | (with_reducible refine store_row (.tmp 12) (.tmp 27) _ _ q t2 rfl rfl rfl rfl ?_)
    | (with_reducible refine store_row (.tmp 13) (.tmp 28) _ _ r u3 rfl rfl rfl rfl ?_)
    | fail)
  clear t2 t3 u3 x0 x1 v0 v1 hb3 vb hs3
  generalize (((w3.alloc (.cells (bw off) 161)).alloc (.cells (bw off) 161)).setRow w3.heap.size (bw q)).setRow (w3.heap.size + 1) (bw r) = V at *
  generalize w3.heap.size = H at *
  clear W
  go_wp2_with (first
    | (with_reducible refine load_row (.tmp 13) _ _ y3 rfl rfl rfl ?_)
    | fail)
  refine (num_any _ _).mono ?_
  rintro e w5 ⟨rfl, b5⟩
  go_wp2
  go_ret
  exact ⟨rfl, yb.trans (b5.mono yb.size)⟩

set_option maxRecDepth 100000 in
set_option maxHeartbeats 2000000 in
theorem rap_and (a : Int) (x y n : Nat) (f g q r : Nat → Bool) (HN : Hid (Wd.wid a = n)) (HF : Hid (Wb.ofB n x = f)) (HG : Hid (Wb.ofB n y = g)) (HQ : Hid ((Wb.qr n f g).1 = q)) (HR : Hid ((Wb.qr n f g).2 = r)) (hx : x < 18446744073709551616) (hy : y < 18446744073709551616) (h1 : 1 ≤ n) (h2 : n ≤ 64) (w : World) :
    Calls Try.prog 109 #[.int .i64 13, .int .i64 a, .int .u64 x, .int .u64 y] w fun e w' => e = .returned (.int .u64 (Wb.val (Wb.bitB n and f g) 64 : Nat)) ∧ Below w.heap.size w w' := by
  go_enter Try.func109, Try.ntmps109
  go_wp2_with fail
  refine (wd_rwidth_any _ _).mono ?_
  rintro e w' ⟨rfl, rfl⟩
  rw [HN.out]
  go_wp2_with fail
  refine (of_any n x h2 hx _).mono ?_
  rintro e w1 ⟨rfl, hb1⟩
  rw [HF.out]
  go_wp2_with fail
  refine (of_any n y h2 hy _).mono ?_
  rintro e w2 ⟨rfl, hb2⟩
  rw [HG.out]
  have hs1 := hb1.size
  have hs2 := hb2.size
  have hbb := hb1.trans (hb2.mono hs1)
  have t0 := (Row.new w2 off).alloc (.cells (bw off) 161)
  have t1 := Row.new_at (w2.alloc (.cells (bw off) 161)) off (g := w2.heap.size + 1) (by simp)
  have u0 := t0.row_same f
  have u1 := t1.row_other (k := w2.heap.size) (by omega) (bw f)
  have v0 := u0.row_other (k := w2.heap.size + 1) (by omega) (bw g)
  have v1 := u1.row_same g
  have vb := below_setRow (below_setRow ((hbb.alloc (by omega) (.cells (bw off) 161)).alloc (by simp; omega) (.cells (bw off) 161)) (show w.heap.size ≤ w2.heap.size by omega) (bw f)) (show w.heap.size ≤ w2.heap.size + 1 by omega) (bw g)
  go_upto_region 3 with (first
    | (with_reducible refine alloc_row_at w2.heap.size rfl rfl rfl ?_)
    | (with_reducible refine alloc_row_at (w2.heap.size + 1) (by simp) rfl rfl ?_)
    | (with_reducible refine store_row (.tmp 10) (.tmp 18) _ _ f t0 rfl rfl rfl rfl ?_)
    | (with_reducible refine store_row (.tmp 11) (.tmp 21) _ _ g u1 rfl rfl rfl rfl ?_)
    | fail)
  clear t0 t1 u0 u1 hb1 hb2 hbb
  generalize (((w2.alloc (.cells (bw off) 161)).alloc (.cells (bw off) 161)).setRow w2.heap.size (bw f)).setRow (w2.heap.size + 1) (bw g) = W at *
  generalize w2.heap.size = G at *
  clear hs1 hs2
  go_wp2_with (first
    | (with_reducible refine load_row (.tmp 10) _ _ v0 rfl rfl rfl ?_)
    | (with_reducible refine load_row (.tmp 11) _ _ v1 rfl rfl rfl ?_)
    | fail)
  refine (rdiv_any n f g h1 h2 _).mono ?_
  rintro e w3 ⟨rfl, hb3⟩
  rw [HQ.out, HR.out]
  have x0 := ((v0.below hb3 v0.lt).alloc (.cells (bw off) 161)).alloc (.cells (bw off) 161)
  have x1 := ((v1.below hb3 v1.lt).alloc (.cells (bw off) 161)).alloc (.cells (bw off) 161)
  have l1 : G + 1 < w3.heap.size := by have := v1.lt; have := hb3.size; omega
  have hs3 : w.heap.size ≤ w3.heap.size := by have := hb3.size; have := vb.size; omega
  have t2 := (Row.new w3 off).alloc (.cells (bw off) 161)
  have t3 := Row.new_at (w3.alloc (.cells (bw off) 161)) off (g := w3.heap.size + 1) (by simp)
  have u3 := t3.row_other (k := w3.heap.size) (by omega) (bw q)
  have y0 := (x0.row_other (k := w3.heap.size) (by omega) (bw q)).row_other (k := w3.heap.size + 1) (by omega) (bw r)
  have y1 := (x1.row_other (k := w3.heap.size) (by omega) (bw q)).row_other (k := w3.heap.size + 1) (by omega) (bw r)
  have y2 := (t2.row_same q).row_other (k := w3.heap.size + 1) (by omega) (bw r)
  have y3 := u3.row_same r
  have yb := below_setRow (below_setRow ((((vb.trans (hb3.mono vb.size)).alloc (by omega) (.cells (bw off) 161)).alloc (by simp; omega) (.cells (bw off) 161))) (show w.heap.size ≤ w3.heap.size by omega) (bw q)) (show w.heap.size ≤ w3.heap.size + 1 by omega) (bw r)
  go_upto_region 4 with (first
    | (with_reducible refine alloc_row_at w3.heap.size rfl rfl rfl ?_)
    | (with_reducible refine alloc_row_at (w3.heap.size + 1) (by simp) rfl rfl ?_)
    | (with_reducible refine store_row (.tmp 12) (.tmp 27) _ _ q t2 rfl rfl rfl rfl ?_)
    | (with_reducible refine store_row (.tmp 13) (.tmp 28) _ _ r u3 rfl rfl rfl rfl ?_)
    | fail)
  clear t2 t3 u3 x0 x1 v0 v1 hb3 vb hs3
  generalize (((w3.alloc (.cells (bw off) 161)).alloc (.cells (bw off) 161)).setRow w3.heap.size (bw q)).setRow (w3.heap.size + 1) (bw r) = V at *
  generalize w3.heap.size = H at *
  clear W
  go_wp2_with (first
    | (with_reducible refine load_row (.tmp 10) _ _ y0 rfl rfl rfl ?_)
    | (with_reducible refine load_row (.tmp 11) _ _ y1 rfl rfl rfl ?_)
    | fail)
  refine (bitAnd_any n f g h2 _).mono ?_
  rintro e w4 ⟨rfl, b4⟩
  go_wp2_with fail
  refine (num_any _ _).mono ?_
  rintro e w5 ⟨rfl, b5⟩
  go_wp2
  go_ret
  have hb := yb.trans (b4.mono yb.size)
  exact ⟨rfl, hb.trans (b5.mono hb.size)⟩

set_option maxRecDepth 100000 in
set_option maxHeartbeats 2000000 in
theorem rap_or (a : Int) (x y n : Nat) (f g q r : Nat → Bool) (HN : Hid (Wd.wid a = n)) (HF : Hid (Wb.ofB n x = f)) (HG : Hid (Wb.ofB n y = g)) (HQ : Hid ((Wb.qr n f g).1 = q)) (HR : Hid ((Wb.qr n f g).2 = r)) (hx : x < 18446744073709551616) (hy : y < 18446744073709551616) (h1 : 1 ≤ n) (h2 : n ≤ 64) (w : World) :
    Calls Try.prog 109 #[.int .i64 14, .int .i64 a, .int .u64 x, .int .u64 y] w fun e w' => e = .returned (.int .u64 (Wb.val (Wb.bitB n or f g) 64 : Nat)) ∧ Below w.heap.size w w' := by
  go_enter Try.func109, Try.ntmps109
  go_wp2_with fail
  refine (wd_rwidth_any _ _).mono ?_
  rintro e w' ⟨rfl, rfl⟩
  rw [HN.out]
  go_wp2_with fail
  refine (of_any n x h2 hx _).mono ?_
  rintro e w1 ⟨rfl, hb1⟩
  rw [HF.out]
  go_wp2_with fail
  refine (of_any n y h2 hy _).mono ?_
  rintro e w2 ⟨rfl, hb2⟩
  rw [HG.out]
  have hs1 := hb1.size
  have hs2 := hb2.size
  have hbb := hb1.trans (hb2.mono hs1)
  have t0 := (Row.new w2 off).alloc (.cells (bw off) 161)
  have t1 := Row.new_at (w2.alloc (.cells (bw off) 161)) off (g := w2.heap.size + 1) (by simp)
  have u0 := t0.row_same f
  have u1 := t1.row_other (k := w2.heap.size) (by omega) (bw f)
  have v0 := u0.row_other (k := w2.heap.size + 1) (by omega) (bw g)
  have v1 := u1.row_same g
  have vb := below_setRow (below_setRow ((hbb.alloc (by omega) (.cells (bw off) 161)).alloc (by simp; omega) (.cells (bw off) 161)) (show w.heap.size ≤ w2.heap.size by omega) (bw f)) (show w.heap.size ≤ w2.heap.size + 1 by omega) (bw g)
  go_upto_region 3 with (first
    | (with_reducible refine alloc_row_at w2.heap.size rfl rfl rfl ?_)
    | (with_reducible refine alloc_row_at (w2.heap.size + 1) (by simp) rfl rfl ?_)
    | (with_reducible refine store_row (.tmp 10) (.tmp 18) _ _ f t0 rfl rfl rfl rfl ?_)
    | (with_reducible refine store_row (.tmp 11) (.tmp 21) _ _ g u1 rfl rfl rfl rfl ?_)
    | fail)
  clear t0 t1 u0 u1 hb1 hb2 hbb
  generalize (((w2.alloc (.cells (bw off) 161)).alloc (.cells (bw off) 161)).setRow w2.heap.size (bw f)).setRow (w2.heap.size + 1) (bw g) = W at *
  generalize w2.heap.size = G at *
  clear hs1 hs2
  go_wp2_with (first
    | (with_reducible refine load_row (.tmp 10) _ _ v0 rfl rfl rfl ?_)
    | (with_reducible refine load_row (.tmp 11) _ _ v1 rfl rfl rfl ?_)
    | fail)
  refine (rdiv_any n f g h1 h2 _).mono ?_
  rintro e w3 ⟨rfl, hb3⟩
  rw [HQ.out, HR.out]
  have x0 := ((v0.below hb3 v0.lt).alloc (.cells (bw off) 161)).alloc (.cells (bw off) 161)
  have x1 := ((v1.below hb3 v1.lt).alloc (.cells (bw off) 161)).alloc (.cells (bw off) 161)
  have l1 : G + 1 < w3.heap.size := by have := v1.lt; have := hb3.size; omega
  have hs3 : w.heap.size ≤ w3.heap.size := by have := hb3.size; have := vb.size; omega
  have t2 := (Row.new w3 off).alloc (.cells (bw off) 161)
  have t3 := Row.new_at (w3.alloc (.cells (bw off) 161)) off (g := w3.heap.size + 1) (by simp)
  have u3 := t3.row_other (k := w3.heap.size) (by omega) (bw q)
  have y0 := (x0.row_other (k := w3.heap.size) (by omega) (bw q)).row_other (k := w3.heap.size + 1) (by omega) (bw r)
  have y1 := (x1.row_other (k := w3.heap.size) (by omega) (bw q)).row_other (k := w3.heap.size + 1) (by omega) (bw r)
  have y2 := (t2.row_same q).row_other (k := w3.heap.size + 1) (by omega) (bw r)
  have y3 := u3.row_same r
  have yb := below_setRow (below_setRow ((((vb.trans (hb3.mono vb.size)).alloc (by omega) (.cells (bw off) 161)).alloc (by simp; omega) (.cells (bw off) 161))) (show w.heap.size ≤ w3.heap.size by omega) (bw q)) (show w.heap.size ≤ w3.heap.size + 1 by omega) (bw r)
  go_upto_region 4 with (first
    | (with_reducible refine alloc_row_at w3.heap.size rfl rfl rfl ?_)
    | (with_reducible refine alloc_row_at (w3.heap.size + 1) (by simp) rfl rfl ?_)
    | (with_reducible refine store_row (.tmp 12) (.tmp 27) _ _ q t2 rfl rfl rfl rfl ?_)
    | (with_reducible refine store_row (.tmp 13) (.tmp 28) _ _ r u3 rfl rfl rfl rfl ?_)
    | fail)
  clear t2 t3 u3 x0 x1 v0 v1 hb3 vb hs3
  generalize (((w3.alloc (.cells (bw off) 161)).alloc (.cells (bw off) 161)).setRow w3.heap.size (bw q)).setRow (w3.heap.size + 1) (bw r) = V at *
  generalize w3.heap.size = H at *
  clear W
  go_wp2_with (first
    | (with_reducible refine load_row (.tmp 10) _ _ y0 rfl rfl rfl ?_)
    | (with_reducible refine load_row (.tmp 11) _ _ y1 rfl rfl rfl ?_)
    | fail)
  refine (bitOr_any n f g h2 _).mono ?_
  rintro e w4 ⟨rfl, b4⟩
  go_wp2_with fail
  refine (num_any _ _).mono ?_
  rintro e w5 ⟨rfl, b5⟩
  go_wp2
  go_ret
  have hb := yb.trans (b4.mono yb.size)
  exact ⟨rfl, hb.trans (b5.mono hb.size)⟩

set_option maxRecDepth 100000 in
set_option maxHeartbeats 2000000 in
theorem rap_xor (a : Int) (x y n : Nat) (f g q r : Nat → Bool) (HN : Hid (Wd.wid a = n)) (HF : Hid (Wb.ofB n x = f)) (HG : Hid (Wb.ofB n y = g)) (HQ : Hid ((Wb.qr n f g).1 = q)) (HR : Hid ((Wb.qr n f g).2 = r)) (hx : x < 18446744073709551616) (hy : y < 18446744073709551616) (h1 : 1 ≤ n) (h2 : n ≤ 64) (w : World) :
    Calls Try.prog 109 #[.int .i64 15, .int .i64 a, .int .u64 x, .int .u64 y] w fun e w' => e = .returned (.int .u64 (Wb.val (Wb.bitB n bne f g) 64 : Nat)) ∧ Below w.heap.size w w' := by
  go_enter Try.func109, Try.ntmps109
  go_wp2_with fail
  refine (wd_rwidth_any _ _).mono ?_
  rintro e w' ⟨rfl, rfl⟩
  rw [HN.out]
  go_wp2_with fail
  refine (of_any n x h2 hx _).mono ?_
  rintro e w1 ⟨rfl, hb1⟩
  rw [HF.out]
  go_wp2_with fail
  refine (of_any n y h2 hy _).mono ?_
  rintro e w2 ⟨rfl, hb2⟩
  rw [HG.out]
  have hs1 := hb1.size
  have hs2 := hb2.size
  have hbb := hb1.trans (hb2.mono hs1)
  have t0 := (Row.new w2 off).alloc (.cells (bw off) 161)
  have t1 := Row.new_at (w2.alloc (.cells (bw off) 161)) off (g := w2.heap.size + 1) (by simp)
  have u0 := t0.row_same f
  have u1 := t1.row_other (k := w2.heap.size) (by omega) (bw f)
  have v0 := u0.row_other (k := w2.heap.size + 1) (by omega) (bw g)
  have v1 := u1.row_same g
  have vb := below_setRow (below_setRow ((hbb.alloc (by omega) (.cells (bw off) 161)).alloc (by simp; omega) (.cells (bw off) 161)) (show w.heap.size ≤ w2.heap.size by omega) (bw f)) (show w.heap.size ≤ w2.heap.size + 1 by omega) (bw g)
  go_upto_region 3 with (first
    | (with_reducible refine alloc_row_at w2.heap.size rfl rfl rfl ?_)
    | (with_reducible refine alloc_row_at (w2.heap.size + 1) (by simp) rfl rfl ?_)
    | (with_reducible refine store_row (.tmp 10) (.tmp 18) _ _ f t0 rfl rfl rfl rfl ?_)
    | (with_reducible refine store_row (.tmp 11) (.tmp 21) _ _ g u1 rfl rfl rfl rfl ?_)
    | fail)
  clear t0 t1 u0 u1 hb1 hb2 hbb
  generalize (((w2.alloc (.cells (bw off) 161)).alloc (.cells (bw off) 161)).setRow w2.heap.size (bw f)).setRow (w2.heap.size + 1) (bw g) = W at *
  generalize w2.heap.size = G at *
  clear hs1 hs2
  go_wp2_with (first
    | (with_reducible refine load_row (.tmp 10) _ _ v0 rfl rfl rfl ?_)
    | (with_reducible refine load_row (.tmp 11) _ _ v1 rfl rfl rfl ?_)
    | fail)
  refine (rdiv_any n f g h1 h2 _).mono ?_
  rintro e w3 ⟨rfl, hb3⟩
  rw [HQ.out, HR.out]
  have x0 := ((v0.below hb3 v0.lt).alloc (.cells (bw off) 161)).alloc (.cells (bw off) 161)
  have x1 := ((v1.below hb3 v1.lt).alloc (.cells (bw off) 161)).alloc (.cells (bw off) 161)
  have l1 : G + 1 < w3.heap.size := by have := v1.lt; have := hb3.size; omega
  have hs3 : w.heap.size ≤ w3.heap.size := by have := hb3.size; have := vb.size; omega
  have t2 := (Row.new w3 off).alloc (.cells (bw off) 161)
  have t3 := Row.new_at (w3.alloc (.cells (bw off) 161)) off (g := w3.heap.size + 1) (by simp)
  have u3 := t3.row_other (k := w3.heap.size) (by omega) (bw q)
  have y0 := (x0.row_other (k := w3.heap.size) (by omega) (bw q)).row_other (k := w3.heap.size + 1) (by omega) (bw r)
  have y1 := (x1.row_other (k := w3.heap.size) (by omega) (bw q)).row_other (k := w3.heap.size + 1) (by omega) (bw r)
  have y2 := (t2.row_same q).row_other (k := w3.heap.size + 1) (by omega) (bw r)
  have y3 := u3.row_same r
  have yb := below_setRow (below_setRow ((((vb.trans (hb3.mono vb.size)).alloc (by omega) (.cells (bw off) 161)).alloc (by simp; omega) (.cells (bw off) 161))) (show w.heap.size ≤ w3.heap.size by omega) (bw q)) (show w.heap.size ≤ w3.heap.size + 1 by omega) (bw r)
  go_upto_region 4 with (first
    | (with_reducible refine alloc_row_at w3.heap.size rfl rfl rfl ?_)
    | (with_reducible refine alloc_row_at (w3.heap.size + 1) (by simp) rfl rfl ?_)
    | (with_reducible refine store_row (.tmp 12) (.tmp 27) _ _ q t2 rfl rfl rfl rfl ?_)
    | (with_reducible refine store_row (.tmp 13) (.tmp 28) _ _ r u3 rfl rfl rfl rfl ?_)
    | fail)
  clear t2 t3 u3 x0 x1 v0 v1 hb3 vb hs3
  generalize (((w3.alloc (.cells (bw off) 161)).alloc (.cells (bw off) 161)).setRow w3.heap.size (bw q)).setRow (w3.heap.size + 1) (bw r) = V at *
  generalize w3.heap.size = H at *
  clear W
  go_wp2_with (first
    | (with_reducible refine load_row (.tmp 10) _ _ y0 rfl rfl rfl ?_)
    | (with_reducible refine load_row (.tmp 11) _ _ y1 rfl rfl rfl ?_)
    | fail)
  refine (bitXor_any n f g h2 _).mono ?_
  rintro e w4 ⟨rfl, b4⟩
  go_wp2_with fail
  refine (num_any _ _).mono ?_
  rintro e w5 ⟨rfl, b5⟩
  go_wp2
  go_ret
  have hb := yb.trans (b4.mono yb.size)
  exact ⟨rfl, hb.trans (b5.mono hb.size)⟩

set_option maxRecDepth 100000 in
set_option maxHeartbeats 2000000 in
theorem rap_shl (a : Int) (x y n : Nat) (f g q r : Nat → Bool) (HN : Hid (Wd.wid a = n)) (HF : Hid (Wb.ofB n x = f)) (HG : Hid (Wb.ofB n y = g)) (HQ : Hid ((Wb.qr n f g).1 = q)) (HR : Hid ((Wb.qr n f g).2 = r)) (hx : x < 18446744073709551616) (hy : y < 18446744073709551616) (h1 : 1 ≤ n) (h2 : n ≤ 64) (w : World) :
    Calls Try.prog 109 #[.int .i64 16, .int .i64 a, .int .u64 x, .int .u64 y] w fun e w' => e = .returned (.int .u64 (Wb.val (Wb.movU n f (min n (Wb.val g 64))) 64 : Nat)) ∧ Below w.heap.size w w' := by
  go_enter Try.func109, Try.ntmps109
  go_wp2_with fail
  refine (wd_rwidth_any _ _).mono ?_
  rintro e w' ⟨rfl, rfl⟩
  rw [HN.out]
  go_wp2_with fail
  refine (of_any n x h2 hx _).mono ?_
  rintro e w1 ⟨rfl, hb1⟩
  rw [HF.out]
  go_wp2_with fail
  refine (of_any n y h2 hy _).mono ?_
  rintro e w2 ⟨rfl, hb2⟩
  rw [HG.out]
  have hs1 := hb1.size
  have hs2 := hb2.size
  have hbb := hb1.trans (hb2.mono hs1)
  have t0 := (Row.new w2 off).alloc (.cells (bw off) 161)
  have t1 := Row.new_at (w2.alloc (.cells (bw off) 161)) off (g := w2.heap.size + 1) (by simp)
  have u0 := t0.row_same f
  have u1 := t1.row_other (k := w2.heap.size) (by omega) (bw f)
  have v0 := u0.row_other (k := w2.heap.size + 1) (by omega) (bw g)
  have v1 := u1.row_same g
  have vb := below_setRow (below_setRow ((hbb.alloc (by omega) (.cells (bw off) 161)).alloc (by simp; omega) (.cells (bw off) 161)) (show w.heap.size ≤ w2.heap.size by omega) (bw f)) (show w.heap.size ≤ w2.heap.size + 1 by omega) (bw g)
  go_upto_region 3 with (first
    | (with_reducible refine alloc_row_at w2.heap.size rfl rfl rfl ?_)
    | (with_reducible refine alloc_row_at (w2.heap.size + 1) (by simp) rfl rfl ?_)
    | (with_reducible refine store_row (.tmp 10) (.tmp 18) _ _ f t0 rfl rfl rfl rfl ?_)
    | (with_reducible refine store_row (.tmp 11) (.tmp 21) _ _ g u1 rfl rfl rfl rfl ?_)
    | fail)
  clear t0 t1 u0 u1 hb1 hb2 hbb
  generalize (((w2.alloc (.cells (bw off) 161)).alloc (.cells (bw off) 161)).setRow w2.heap.size (bw f)).setRow (w2.heap.size + 1) (bw g) = W at *
  generalize w2.heap.size = G at *
  clear hs1 hs2
  go_wp2_with (first
    | (with_reducible refine load_row (.tmp 10) _ _ v0 rfl rfl rfl ?_)
    | (with_reducible refine load_row (.tmp 11) _ _ v1 rfl rfl rfl ?_)
    | fail)
  refine (rdiv_any n f g h1 h2 _).mono ?_
  rintro e w3 ⟨rfl, hb3⟩
  rw [HQ.out, HR.out]
  have x0 := ((v0.below hb3 v0.lt).alloc (.cells (bw off) 161)).alloc (.cells (bw off) 161)
  have x1 := ((v1.below hb3 v1.lt).alloc (.cells (bw off) 161)).alloc (.cells (bw off) 161)
  have l1 : G + 1 < w3.heap.size := by have := v1.lt; have := hb3.size; omega
  have hs3 : w.heap.size ≤ w3.heap.size := by have := hb3.size; have := vb.size; omega
  have t2 := (Row.new w3 off).alloc (.cells (bw off) 161)
  have t3 := Row.new_at (w3.alloc (.cells (bw off) 161)) off (g := w3.heap.size + 1) (by simp)
  have u3 := t3.row_other (k := w3.heap.size) (by omega) (bw q)
  have y0 := (x0.row_other (k := w3.heap.size) (by omega) (bw q)).row_other (k := w3.heap.size + 1) (by omega) (bw r)
  have y1 := (x1.row_other (k := w3.heap.size) (by omega) (bw q)).row_other (k := w3.heap.size + 1) (by omega) (bw r)
  have y2 := (t2.row_same q).row_other (k := w3.heap.size + 1) (by omega) (bw r)
  have y3 := u3.row_same r
  have yb := below_setRow (below_setRow ((((vb.trans (hb3.mono vb.size)).alloc (by omega) (.cells (bw off) 161)).alloc (by simp; omega) (.cells (bw off) 161))) (show w.heap.size ≤ w3.heap.size by omega) (bw q)) (show w.heap.size ≤ w3.heap.size + 1 by omega) (bw r)
  go_upto_region 4 with (first
    | (with_reducible refine alloc_row_at w3.heap.size rfl rfl rfl ?_)
    | (with_reducible refine alloc_row_at (w3.heap.size + 1) (by simp) rfl rfl ?_)
    | (with_reducible refine store_row (.tmp 12) (.tmp 27) _ _ q t2 rfl rfl rfl rfl ?_)
    | (with_reducible refine store_row (.tmp 13) (.tmp 28) _ _ r u3 rfl rfl rfl rfl ?_)
    | fail)
  clear t2 t3 u3 x0 x1 v0 v1 hb3 vb hs3
  generalize (((w3.alloc (.cells (bw off) 161)).alloc (.cells (bw off) 161)).setRow w3.heap.size (bw q)).setRow (w3.heap.size + 1) (bw r) = V at *
  generalize w3.heap.size = H at *
  clear W
  go_wp2_with (first
    | (with_reducible refine load_row (.tmp 10) _ _ y0 rfl rfl rfl ?_)
    | (with_reducible refine load_row (.tmp 11) _ _ y1 rfl rfl rfl ?_)
    | fail)
  refine (movedU_any n f g h1 h2 _).mono ?_
  rintro e w4 ⟨rfl, b4⟩
  go_wp2_with fail
  refine (num_any _ _).mono ?_
  rintro e w5 ⟨rfl, b5⟩
  go_wp2
  go_ret
  have hb := yb.trans (b4.mono yb.size)
  exact ⟨rfl, hb.trans (b5.mono hb.size)⟩

set_option maxRecDepth 100000 in
set_option maxHeartbeats 2000000 in
theorem rap_shr (a : Int) (x y n : Nat) (f g q r : Nat → Bool) (HN : Hid (Wd.wid a = n)) (HF : Hid (Wb.ofB n x = f)) (HG : Hid (Wb.ofB n y = g)) (HQ : Hid ((Wb.qr n f g).1 = q)) (HR : Hid ((Wb.qr n f g).2 = r)) (hx : x < 18446744073709551616) (hy : y < 18446744073709551616) (h1 : 1 ≤ n) (h2 : n ≤ 64) (w : World) :
    Calls Try.prog 109 #[.int .i64 17, .int .i64 a, .int .u64 x, .int .u64 y] w fun e w' => e = .returned (.int .u64 (Wb.val (Wb.movD n f false (min n (Wb.val g 64))) 64 : Nat)) ∧ Below w.heap.size w w' := by
  go_enter Try.func109, Try.ntmps109
  go_wp2_with fail
  refine (wd_rwidth_any _ _).mono ?_
  rintro e w' ⟨rfl, rfl⟩
  rw [HN.out]
  go_wp2_with fail
  refine (of_any n x h2 hx _).mono ?_
  rintro e w1 ⟨rfl, hb1⟩
  rw [HF.out]
  go_wp2_with fail
  refine (of_any n y h2 hy _).mono ?_
  rintro e w2 ⟨rfl, hb2⟩
  rw [HG.out]
  have hs1 := hb1.size
  have hs2 := hb2.size
  have hbb := hb1.trans (hb2.mono hs1)
  have t0 := (Row.new w2 off).alloc (.cells (bw off) 161)
  have t1 := Row.new_at (w2.alloc (.cells (bw off) 161)) off (g := w2.heap.size + 1) (by simp)
  have u0 := t0.row_same f
  have u1 := t1.row_other (k := w2.heap.size) (by omega) (bw f)
  have v0 := u0.row_other (k := w2.heap.size + 1) (by omega) (bw g)
  have v1 := u1.row_same g
  have vb := below_setRow (below_setRow ((hbb.alloc (by omega) (.cells (bw off) 161)).alloc (by simp; omega) (.cells (bw off) 161)) (show w.heap.size ≤ w2.heap.size by omega) (bw f)) (show w.heap.size ≤ w2.heap.size + 1 by omega) (bw g)
  go_upto_region 3 with (first
    | (with_reducible refine alloc_row_at w2.heap.size rfl rfl rfl ?_)
    | (with_reducible refine alloc_row_at (w2.heap.size + 1) (by simp) rfl rfl ?_)
    | (with_reducible refine store_row (.tmp 10) (.tmp 18) _ _ f t0 rfl rfl rfl rfl ?_)
    | (with_reducible refine store_row (.tmp 11) (.tmp 21) _ _ g u1 rfl rfl rfl rfl ?_)
    | fail)
  clear t0 t1 u0 u1 hb1 hb2 hbb
  generalize (((w2.alloc (.cells (bw off) 161)).alloc (.cells (bw off) 161)).setRow w2.heap.size (bw f)).setRow (w2.heap.size + 1) (bw g) = W at *
  generalize w2.heap.size = G at *
  clear hs1 hs2
  go_wp2_with (first
    | (with_reducible refine load_row (.tmp 10) _ _ v0 rfl rfl rfl ?_)
    | (with_reducible refine load_row (.tmp 11) _ _ v1 rfl rfl rfl ?_)
    | fail)
  refine (rdiv_any n f g h1 h2 _).mono ?_
  rintro e w3 ⟨rfl, hb3⟩
  rw [HQ.out, HR.out]
  have x0 := ((v0.below hb3 v0.lt).alloc (.cells (bw off) 161)).alloc (.cells (bw off) 161)
  have x1 := ((v1.below hb3 v1.lt).alloc (.cells (bw off) 161)).alloc (.cells (bw off) 161)
  have l1 : G + 1 < w3.heap.size := by have := v1.lt; have := hb3.size; omega
  have hs3 : w.heap.size ≤ w3.heap.size := by have := hb3.size; have := vb.size; omega
  have t2 := (Row.new w3 off).alloc (.cells (bw off) 161)
  have t3 := Row.new_at (w3.alloc (.cells (bw off) 161)) off (g := w3.heap.size + 1) (by simp)
  have u3 := t3.row_other (k := w3.heap.size) (by omega) (bw q)
  have y0 := (x0.row_other (k := w3.heap.size) (by omega) (bw q)).row_other (k := w3.heap.size + 1) (by omega) (bw r)
  have y1 := (x1.row_other (k := w3.heap.size) (by omega) (bw q)).row_other (k := w3.heap.size + 1) (by omega) (bw r)
  have y2 := (t2.row_same q).row_other (k := w3.heap.size + 1) (by omega) (bw r)
  have y3 := u3.row_same r
  have yb := below_setRow (below_setRow ((((vb.trans (hb3.mono vb.size)).alloc (by omega) (.cells (bw off) 161)).alloc (by simp; omega) (.cells (bw off) 161))) (show w.heap.size ≤ w3.heap.size by omega) (bw q)) (show w.heap.size ≤ w3.heap.size + 1 by omega) (bw r)
  go_upto_region 4 with (first
    | (with_reducible refine alloc_row_at w3.heap.size rfl rfl rfl ?_)
    | (with_reducible refine alloc_row_at (w3.heap.size + 1) (by simp) rfl rfl ?_)
    | (with_reducible refine store_row (.tmp 12) (.tmp 27) _ _ q t2 rfl rfl rfl rfl ?_)
    | (with_reducible refine store_row (.tmp 13) (.tmp 28) _ _ r u3 rfl rfl rfl rfl ?_)
    | fail)
  clear t2 t3 u3 x0 x1 v0 v1 hb3 vb hs3
  generalize (((w3.alloc (.cells (bw off) 161)).alloc (.cells (bw off) 161)).setRow w3.heap.size (bw q)).setRow (w3.heap.size + 1) (bw r) = V at *
  generalize w3.heap.size = H at *
  clear W
  go_wp2_with (first
    | (with_reducible refine load_row (.tmp 10) _ _ y0 rfl rfl rfl ?_)
    | (with_reducible refine load_row (.tmp 11) _ _ y1 rfl rfl rfl ?_)
    | fail)
  refine (movedR_any n f g h1 h2 _).mono ?_
  rintro e w4 ⟨rfl, b4⟩
  go_wp2_with fail
  refine (num_any _ _).mono ?_
  rintro e w5 ⟨rfl, b5⟩
  go_wp2
  go_ret
  have hb := yb.trans (b4.mono yb.size)
  exact ⟨rfl, hb.trans (b5.mono hb.size)⟩

set_option maxRecDepth 100000 in
set_option maxHeartbeats 2000000 in
theorem rap_sar (a : Int) (x y n : Nat) (f g q r : Nat → Bool) (HN : Hid (Wd.wid a = n)) (HF : Hid (Wb.ofB n x = f)) (HG : Hid (Wb.ofB n y = g)) (HQ : Hid ((Wb.qr n f g).1 = q)) (HR : Hid ((Wb.qr n f g).2 = r)) (hx : x < 18446744073709551616) (hy : y < 18446744073709551616) (h1 : 1 ≤ n) (h2 : n ≤ 64) (w : World) :
    Calls Try.prog 109 #[.int .i64 18, .int .i64 a, .int .u64 x, .int .u64 y] w fun e w' => e = .returned (.int .u64 (Wb.val (Wb.movD n f (f (n - 1)) (min n (Wb.val g 64))) 64 : Nat)) ∧ Below w.heap.size w w' := by
  go_enter Try.func109, Try.ntmps109
  go_wp2_with fail
  refine (wd_rwidth_any _ _).mono ?_
  rintro e w' ⟨rfl, rfl⟩
  rw [HN.out]
  go_wp2_with fail
  refine (of_any n x h2 hx _).mono ?_
  rintro e w1 ⟨rfl, hb1⟩
  rw [HF.out]
  go_wp2_with fail
  refine (of_any n y h2 hy _).mono ?_
  rintro e w2 ⟨rfl, hb2⟩
  rw [HG.out]
  have hs1 := hb1.size
  have hs2 := hb2.size
  have hbb := hb1.trans (hb2.mono hs1)
  have t0 := (Row.new w2 off).alloc (.cells (bw off) 161)
  have t1 := Row.new_at (w2.alloc (.cells (bw off) 161)) off (g := w2.heap.size + 1) (by simp)
  have u0 := t0.row_same f
  have u1 := t1.row_other (k := w2.heap.size) (by omega) (bw f)
  have v0 := u0.row_other (k := w2.heap.size + 1) (by omega) (bw g)
  have v1 := u1.row_same g
  have vb := below_setRow (below_setRow ((hbb.alloc (by omega) (.cells (bw off) 161)).alloc (by simp; omega) (.cells (bw off) 161)) (show w.heap.size ≤ w2.heap.size by omega) (bw f)) (show w.heap.size ≤ w2.heap.size + 1 by omega) (bw g)
  go_upto_region 3 with (first
    | (with_reducible refine alloc_row_at w2.heap.size rfl rfl rfl ?_)
    | (with_reducible refine alloc_row_at (w2.heap.size + 1) (by simp) rfl rfl ?_)
    | (with_reducible refine store_row (.tmp 10) (.tmp 18) _ _ f t0 rfl rfl rfl rfl ?_)
    | (with_reducible refine store_row (.tmp 11) (.tmp 21) _ _ g u1 rfl rfl rfl rfl ?_)
    | fail)
  clear t0 t1 u0 u1 hb1 hb2 hbb
  generalize (((w2.alloc (.cells (bw off) 161)).alloc (.cells (bw off) 161)).setRow w2.heap.size (bw f)).setRow (w2.heap.size + 1) (bw g) = W at *
  generalize w2.heap.size = G at *
  clear hs1 hs2
  go_wp2_with (first
    | (with_reducible refine load_row (.tmp 10) _ _ v0 rfl rfl rfl ?_)
    | (with_reducible refine load_row (.tmp 11) _ _ v1 rfl rfl rfl ?_)
    | fail)
  refine (rdiv_any n f g h1 h2 _).mono ?_
  rintro e w3 ⟨rfl, hb3⟩
  rw [HQ.out, HR.out]
  have x0 := ((v0.below hb3 v0.lt).alloc (.cells (bw off) 161)).alloc (.cells (bw off) 161)
  have x1 := ((v1.below hb3 v1.lt).alloc (.cells (bw off) 161)).alloc (.cells (bw off) 161)
  have l1 : G + 1 < w3.heap.size := by have := v1.lt; have := hb3.size; omega
  have hs3 : w.heap.size ≤ w3.heap.size := by have := hb3.size; have := vb.size; omega
  have t2 := (Row.new w3 off).alloc (.cells (bw off) 161)
  have t3 := Row.new_at (w3.alloc (.cells (bw off) 161)) off (g := w3.heap.size + 1) (by simp)
  have u3 := t3.row_other (k := w3.heap.size) (by omega) (bw q)
  have y0 := (x0.row_other (k := w3.heap.size) (by omega) (bw q)).row_other (k := w3.heap.size + 1) (by omega) (bw r)
  have y1 := (x1.row_other (k := w3.heap.size) (by omega) (bw q)).row_other (k := w3.heap.size + 1) (by omega) (bw r)
  have y2 := (t2.row_same q).row_other (k := w3.heap.size + 1) (by omega) (bw r)
  have y3 := u3.row_same r
  have yb := below_setRow (below_setRow ((((vb.trans (hb3.mono vb.size)).alloc (by omega) (.cells (bw off) 161)).alloc (by simp; omega) (.cells (bw off) 161))) (show w.heap.size ≤ w3.heap.size by omega) (bw q)) (show w.heap.size ≤ w3.heap.size + 1 by omega) (bw r)
  go_upto_region 4 with (first
    | (with_reducible refine alloc_row_at w3.heap.size rfl rfl rfl ?_)
    | (with_reducible refine alloc_row_at (w3.heap.size + 1) (by simp) rfl rfl ?_)
    | (with_reducible refine store_row (.tmp 12) (.tmp 27) _ _ q t2 rfl rfl rfl rfl ?_)
    | (with_reducible refine store_row (.tmp 13) (.tmp 28) _ _ r u3 rfl rfl rfl rfl ?_)
    | fail)
  clear t2 t3 u3 x0 x1 v0 v1 hb3 vb hs3
  generalize (((w3.alloc (.cells (bw off) 161)).alloc (.cells (bw off) 161)).setRow w3.heap.size (bw q)).setRow (w3.heap.size + 1) (bw r) = V at *
  generalize w3.heap.size = H at *
  clear W
  go_wp2_with (first
    | (with_reducible refine load_row (.tmp 10) _ _ y0 rfl rfl rfl ?_)
    | (with_reducible refine load_row (.tmp 11) _ _ y1 rfl rfl rfl ?_)
    | fail)
  refine (movedA_any n f g h1 h2 _).mono ?_
  rintro e w4 ⟨rfl, b4⟩
  go_wp2_with fail
  refine (num_any _ _).mono ?_
  rintro e w5 ⟨rfl, b5⟩
  go_wp2
  go_ret
  have hb := yb.trans (b4.mono yb.size)
  exact ⟨rfl, hb.trans (b5.mono hb.size)⟩

set_option maxRecDepth 100000 in
set_option maxHeartbeats 2000000 in
theorem rap_eq (a : Int) (x y n : Nat) (f g q r : Nat → Bool) (HN : Hid (Wd.wid a = n)) (HF : Hid (Wb.ofB n x = f)) (HG : Hid (Wb.ofB n y = g)) (HQ : Hid ((Wb.qr n f g).1 = q)) (HR : Hid ((Wb.qr n f g).2 = r)) (hx : x < 18446744073709551616) (hy : y < 18446744073709551616) (h1 : 1 ≤ n) (h2 : n ≤ 64) (b : Bool) (HE : Hid (((List.range 64).all fun i => f i == g i) = b)) (w : World) :
    Calls Try.prog 109 #[.int .i64 19, .int .i64 a, .int .u64 x, .int .u64 y] w fun e w' => e = .returned (.int .u64 (Wb.val (upd off 0 b) 64 : Nat)) ∧ Below w.heap.size w w' := by
  go_enter Try.func109, Try.ntmps109
  go_wp2_with fail
  refine (wd_rwidth_any _ _).mono ?_
  rintro e w' ⟨rfl, rfl⟩
  rw [HN.out]
  go_wp2_with fail
  refine (of_any n x h2 hx _).mono ?_
  rintro e w1 ⟨rfl, hb1⟩
  rw [HF.out]
  go_wp2_with fail
  refine (of_any n y h2 hy _).mono ?_
  rintro e w2 ⟨rfl, hb2⟩
  rw [HG.out]
  have hs1 := hb1.size
  have hs2 := hb2.size
  have hbb := hb1.trans (hb2.mono hs1)
  have t0 := (Row.new w2 off).alloc (.cells (bw off) 161)
  have t1 := Row.new_at (w2.alloc (.cells (bw off) 161)) off (g := w2.heap.size + 1) (by simp)
  have u0 := t0.row_same f
  have u1 := t1.row_other (k := w2.heap.size) (by omega) (bw f)
  have v0 := u0.row_other (k := w2.heap.size + 1) (by omega) (bw g)
  have v1 := u1.row_same g
  have vb := below_setRow (below_setRow ((hbb.alloc (by omega) (.cells (bw off) 161)).alloc (by simp; omega) (.cells (bw off) 161)) (show w.heap.size ≤ w2.heap.size by omega) (bw f)) (show w.heap.size ≤ w2.heap.size + 1 by omega) (bw g)
  go_upto_region 3 with (first
    | (with_reducible refine alloc_row_at w2.heap.size rfl rfl rfl ?_)
    | (with_reducible refine alloc_row_at (w2.heap.size + 1) (by simp) rfl rfl ?_)
    | (with_reducible refine store_row (.tmp 10) (.tmp 18) _ _ f t0 rfl rfl rfl rfl ?_)
    | (with_reducible refine store_row (.tmp 11) (.tmp 21) _ _ g u1 rfl rfl rfl rfl ?_)
    | fail)
  clear t0 t1 u0 u1 hb1 hb2 hbb
  generalize (((w2.alloc (.cells (bw off) 161)).alloc (.cells (bw off) 161)).setRow w2.heap.size (bw f)).setRow (w2.heap.size + 1) (bw g) = W at *
  generalize w2.heap.size = G at *
  clear hs1 hs2
  go_wp2_with (first
    | (with_reducible refine load_row (.tmp 10) _ _ v0 rfl rfl rfl ?_)
    | (with_reducible refine load_row (.tmp 11) _ _ v1 rfl rfl rfl ?_)
    | fail)
  refine (rdiv_any n f g h1 h2 _).mono ?_
  rintro e w3 ⟨rfl, hb3⟩
  rw [HQ.out, HR.out]
  have x0 := ((v0.below hb3 v0.lt).alloc (.cells (bw off) 161)).alloc (.cells (bw off) 161)
  have x1 := ((v1.below hb3 v1.lt).alloc (.cells (bw off) 161)).alloc (.cells (bw off) 161)
  have l1 : G + 1 < w3.heap.size := by have := v1.lt; have := hb3.size; omega
  have hs3 : w.heap.size ≤ w3.heap.size := by have := hb3.size; have := vb.size; omega
  have t2 := (Row.new w3 off).alloc (.cells (bw off) 161)
  have t3 := Row.new_at (w3.alloc (.cells (bw off) 161)) off (g := w3.heap.size + 1) (by simp)
  have u3 := t3.row_other (k := w3.heap.size) (by omega) (bw q)
  have y0 := (x0.row_other (k := w3.heap.size) (by omega) (bw q)).row_other (k := w3.heap.size + 1) (by omega) (bw r)
  have y1 := (x1.row_other (k := w3.heap.size) (by omega) (bw q)).row_other (k := w3.heap.size + 1) (by omega) (bw r)
  have y2 := (t2.row_same q).row_other (k := w3.heap.size + 1) (by omega) (bw r)
  have y3 := u3.row_same r
  have yb := below_setRow (below_setRow ((((vb.trans (hb3.mono vb.size)).alloc (by omega) (.cells (bw off) 161)).alloc (by simp; omega) (.cells (bw off) 161))) (show w.heap.size ≤ w3.heap.size by omega) (bw q)) (show w.heap.size ≤ w3.heap.size + 1 by omega) (bw r)
  go_upto_region 4 with (first
    | (with_reducible refine alloc_row_at w3.heap.size rfl rfl rfl ?_)
    | (with_reducible refine alloc_row_at (w3.heap.size + 1) (by simp) rfl rfl ?_)
    | (with_reducible refine store_row (.tmp 12) (.tmp 27) _ _ q t2 rfl rfl rfl rfl ?_)
    | (with_reducible refine store_row (.tmp 13) (.tmp 28) _ _ r u3 rfl rfl rfl rfl ?_)
    | fail)
  clear t2 t3 u3 x0 x1 v0 v1 hb3 vb hs3
  generalize (((w3.alloc (.cells (bw off) 161)).alloc (.cells (bw off) 161)).setRow w3.heap.size (bw q)).setRow (w3.heap.size + 1) (bw r) = V at *
  generalize w3.heap.size = H at *
  clear W
  have he := run_eq_rows f g
  rw [HE.out] at he
  go_wp2_with (first
    | (with_reducible refine load_row (.tmp 10) _ _ y0 rfl rfl rfl ?_)
    | (with_reducible refine load_row (.tmp 11) _ _ y1 rfl rfl rfl ?_)
    | fail)
  refine (truth_any _ _).mono ?_
  rintro e w4 ⟨rfl, b4⟩
  go_wp2_with fail
  refine (num_any _ _).mono ?_
  rintro e w5 ⟨rfl, b5⟩
  go_wp2
  go_ret
  have hb := yb.trans (b4.mono yb.size)
  exact ⟨rfl, hb.trans (b5.mono hb.size)⟩

set_option maxRecDepth 100000 in
set_option maxHeartbeats 2000000 in
theorem rap_less (a : Int) (x y n : Nat) (f g q r : Nat → Bool) (HN : Hid (Wd.wid a = n)) (HF : Hid (Wb.ofB n x = f)) (HG : Hid (Wb.ofB n y = g)) (HQ : Hid ((Wb.qr n f g).1 = q)) (HR : Hid ((Wb.qr n f g).2 = r)) (hx : x < 18446744073709551616) (hy : y < 18446744073709551616) (h1 : 1 ≤ n) (h2 : n ≤ 64) (b : Bool) (HL : Hid (decide (Wb.val f n < Wb.val g n) = b)) (w : World) :
    Calls Try.prog 109 #[.int .i64 20, .int .i64 a, .int .u64 x, .int .u64 y] w fun e w' => e = .returned (.int .u64 (Wb.val (upd off 0 b) 64 : Nat)) ∧ Below w.heap.size w w' := by
  go_enter Try.func109, Try.ntmps109
  go_wp2_with fail
  refine (wd_rwidth_any _ _).mono ?_
  rintro e w' ⟨rfl, rfl⟩
  rw [HN.out]
  go_wp2_with fail
  refine (of_any n x h2 hx _).mono ?_
  rintro e w1 ⟨rfl, hb1⟩
  rw [HF.out]
  go_wp2_with fail
  refine (of_any n y h2 hy _).mono ?_
  rintro e w2 ⟨rfl, hb2⟩
  rw [HG.out]
  have hs1 := hb1.size
  have hs2 := hb2.size
  have hbb := hb1.trans (hb2.mono hs1)
  have t0 := (Row.new w2 off).alloc (.cells (bw off) 161)
  have t1 := Row.new_at (w2.alloc (.cells (bw off) 161)) off (g := w2.heap.size + 1) (by simp)
  have u0 := t0.row_same f
  have u1 := t1.row_other (k := w2.heap.size) (by omega) (bw f)
  have v0 := u0.row_other (k := w2.heap.size + 1) (by omega) (bw g)
  have v1 := u1.row_same g
  have vb := below_setRow (below_setRow ((hbb.alloc (by omega) (.cells (bw off) 161)).alloc (by simp; omega) (.cells (bw off) 161)) (show w.heap.size ≤ w2.heap.size by omega) (bw f)) (show w.heap.size ≤ w2.heap.size + 1 by omega) (bw g)
  go_upto_region 3 with (first
    | (with_reducible refine alloc_row_at w2.heap.size rfl rfl rfl ?_)
    | (with_reducible refine alloc_row_at (w2.heap.size + 1) (by simp) rfl rfl ?_)
    | (with_reducible refine store_row (.tmp 10) (.tmp 18) _ _ f t0 rfl rfl rfl rfl ?_)
    | (with_reducible refine store_row (.tmp 11) (.tmp 21) _ _ g u1 rfl rfl rfl rfl ?_)
    | fail)
  clear t0 t1 u0 u1 hb1 hb2 hbb
  generalize (((w2.alloc (.cells (bw off) 161)).alloc (.cells (bw off) 161)).setRow w2.heap.size (bw f)).setRow (w2.heap.size + 1) (bw g) = W at *
  generalize w2.heap.size = G at *
  clear hs1 hs2
  go_wp2_with (first
    | (with_reducible refine load_row (.tmp 10) _ _ v0 rfl rfl rfl ?_)
    | (with_reducible refine load_row (.tmp 11) _ _ v1 rfl rfl rfl ?_)
    | fail)
  refine (rdiv_any n f g h1 h2 _).mono ?_
  rintro e w3 ⟨rfl, hb3⟩
  rw [HQ.out, HR.out]
  have x0 := ((v0.below hb3 v0.lt).alloc (.cells (bw off) 161)).alloc (.cells (bw off) 161)
  have x1 := ((v1.below hb3 v1.lt).alloc (.cells (bw off) 161)).alloc (.cells (bw off) 161)
  have l1 : G + 1 < w3.heap.size := by have := v1.lt; have := hb3.size; omega
  have hs3 : w.heap.size ≤ w3.heap.size := by have := hb3.size; have := vb.size; omega
  have t2 := (Row.new w3 off).alloc (.cells (bw off) 161)
  have t3 := Row.new_at (w3.alloc (.cells (bw off) 161)) off (g := w3.heap.size + 1) (by simp)
  have u3 := t3.row_other (k := w3.heap.size) (by omega) (bw q)
  have y0 := (x0.row_other (k := w3.heap.size) (by omega) (bw q)).row_other (k := w3.heap.size + 1) (by omega) (bw r)
  have y1 := (x1.row_other (k := w3.heap.size) (by omega) (bw q)).row_other (k := w3.heap.size + 1) (by omega) (bw r)
  have y2 := (t2.row_same q).row_other (k := w3.heap.size + 1) (by omega) (bw r)
  have y3 := u3.row_same r
  have yb := below_setRow (below_setRow ((((vb.trans (hb3.mono vb.size)).alloc (by omega) (.cells (bw off) 161)).alloc (by simp; omega) (.cells (bw off) 161))) (show w.heap.size ≤ w3.heap.size by omega) (bw q)) (show w.heap.size ≤ w3.heap.size + 1 by omega) (bw r)
  go_upto_region 4 with (first
    | (with_reducible refine alloc_row_at w3.heap.size rfl rfl rfl ?_)
    | (with_reducible refine alloc_row_at (w3.heap.size + 1) (by simp) rfl rfl ?_)
    | (with_reducible refine store_row (.tmp 12) (.tmp 27) _ _ q t2 rfl rfl rfl rfl ?_)
    | (with_reducible refine store_row (.tmp 13) (.tmp 28) _ _ r u3 rfl rfl rfl rfl ?_)
    | fail)
  clear t2 t3 u3 x0 x1 v0 v1 hb3 vb hs3
  generalize (((w3.alloc (.cells (bw off) 161)).alloc (.cells (bw off) 161)).setRow w3.heap.size (bw q)).setRow (w3.heap.size + 1) (bw r) = V at *
  generalize w3.heap.size = H at *
  clear W
  go_wp2_with (first
    | (with_reducible refine load_row (.tmp 10) _ _ y0 rfl rfl rfl ?_)
    | (with_reducible refine load_row (.tmp 11) _ _ y1 rfl rfl rfl ?_)
    | fail)
  refine (less_any' n f g h2 _).mono ?_
  rintro e w40 ⟨rfl, b40⟩
  rw [HL.out]
  go_wp2_with fail
  have yb' := yb.trans (b40.mono yb.size)
  clear yb b40
  refine (truth_any _ _).mono ?_
  rintro e w4 ⟨rfl, b4⟩
  go_wp2_with fail
  refine (num_any _ _).mono ?_
  rintro e w5 ⟨rfl, b5⟩
  go_wp2
  go_ret
  have hb := yb'.trans (b4.mono yb'.size)
  exact ⟨rfl, hb.trans (b5.mono hb.size)⟩
end Go.Proofs.Ytdbcpnpcnkccaaa
