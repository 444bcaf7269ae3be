/-
  The contract of the reference's Apply: the difference, the order by signs.
-/
import Derived.Test.YtmdopndlnnapiaaR9
namespace Go.Proofs.Ytmdopndlnnapiaa
open Go.RowKit

set_option maxRecDepth 100000 in
set_option maxHeartbeats 2000000 in
theorem rap_sub (a : Int) (x y n : Nat) (f g q r : Nat → Bool) (HN : Hid (Wd.wid a = n)) (HF : Hid (Wb.ofB n x = f)) (HG : Hid (Wb.ofB n y = g)) (HQ : Hid ((Wb.qr n f g).1 = q)) (HR : Hid ((Wb.qr n f g).2 = r)) (hx : x < 18446744073709551616) (hy : y < 18446744073709551616) (h1 : 1 ≤ n) (h2 : n ≤ 64) (w : World) :
    Calls Try.prog 12 #[.int .i64 9, .int .i64 a, .int .u64 x, .int .u64 y] w fun e w' => e = .returned (.int .u64 (Wb.val (Wb.addB n f (Wb.notB n g) true) 64 : Nat)) ∧ Below w.heap.size w w' := by
  go_enter Try.func12, Try.ntmps12
  go_wp2_with fail
  refine (rwidth_any _ _).mono ?_
  rintro e w' ⟨rfl, rfl⟩
  rw [HN.out]
  go_wp2_with fail
  refine (of_any n x h2 hx _).mono ?_
  rintro e w1 ⟨rfl, hb1⟩
  rw [HF.out]
  go_wp2_with fail
  refine (of_any n y h2 hy _).mono ?_
  rintro e w2 ⟨rfl, hb2⟩
  rw [HG.out]
  have hs1 := hb1.size
  have hs2 := hb2.size
  have hbb := hb1.trans (hb2.mono hs1)
  have t0 := (Row.new w2 off).alloc (.cells (bw off) 29)
  have t1 := Row.new_at (w2.alloc (.cells (bw off) 29)) off (g := w2.heap.size + 1) (by simp)
  have u0 := t0.row_same f
  have u1 := t1.row_other (k := w2.heap.size) (by omega) (bw f)
  have v0 := u0.row_other (k := w2.heap.size + 1) (by omega) (bw g)
  have v1 := u1.row_same g
  have vb := below_setRow (below_setRow ((hbb.alloc (by omega) (.cells (bw off) 29)).alloc (by simp; omega) (.cells (bw off) 29)) (show w.heap.size ≤ w2.heap.size by omega) (bw f)) (show w.heap.size ≤ w2.heap.size + 1 by omega) (bw g)
  go_upto_region 3 with (first
    | (with_reducible refine alloc_row_at w2.heap.size rfl rfl rfl ?_)
    | (with_reducible refine alloc_row_at (w2.heap.size + 1) (by simp) rfl rfl ?_)
    | (with_reducible refine store_row (.tmp 10) (.tmp 18) _ _ f t0 rfl rfl rfl rfl ?_)
    | (with_reducible refine store_row (.tmp 11) (.tmp 21) _ _ g u1 rfl rfl rfl rfl ?_)
    | fail)
  clear t0 t1 u0 u1 hb1 hb2 hbb
  generalize (((w2.alloc (.cells (bw off) 29)).alloc (.cells (bw off) 29)).setRow w2.heap.size (bw f)).setRow (w2.heap.size + 1) (bw g) = W at *
  generalize w2.heap.size = G at *
  clear hs1 hs2
  go_wp2_with (first
    | (with_reducible refine load_row (.tmp 10) _ _ v0 rfl rfl rfl ?_)
    | (with_reducible refine load_row (.tmp 11) _ _ v1 rfl rfl rfl ?_)
    | fail)
  refine (rdiv_any n f g h1 h2 _).mono ?_
  rintro e w3 ⟨rfl, hb3⟩
  rw [HQ.out, HR.out]
  have x0 := ((v0.below hb3 v0.lt).alloc (.cells (bw off) 29)).alloc (.cells (bw off) 29)
  have x1 := ((v1.below hb3 v1.lt).alloc (.cells (bw off) 29)).alloc (.cells (bw off) 29)
  have l1 : G + 1 < w3.heap.size := by have := v1.lt; have := hb3.size; omega
  have hs3 : w.heap.size ≤ w3.heap.size := by have := hb3.size; have := vb.size; omega
  have t2 := (Row.new w3 off).alloc (.cells (bw off) 29)
  have t3 := Row.new_at (w3.alloc (.cells (bw off) 29)) off (g := w3.heap.size + 1) (by simp)
  have u3 := t3.row_other (k := w3.heap.size) (by omega) (bw q)
  have y0 := (x0.row_other (k := w3.heap.size) (by omega) (bw q)).row_other (k := w3.heap.size + 1) (by omega) (bw r)
  have y1 := (x1.row_other (k := w3.heap.size) (by omega) (bw q)).row_other (k := w3.heap.size + 1) (by omega) (bw r)
  have y2 := (t2.row_same q).row_other (k := w3.heap.size + 1) (by omega) (bw r)
  have y3 := u3.row_same r
  have yb := below_setRow (below_setRow ((((vb.trans (hb3.mono vb.size)).alloc (by omega) (.cells (bw off) 29)).alloc (by simp; omega) (.cells (bw off) 29))) (show w.heap.size ≤ w3.heap.size by omega) (bw q)) (show w.heap.size ≤ w3.heap.size + 1 by omega) (bw r)
  go_upto_region 4 with (first
    | (with_reducible refine alloc_row_at w3.heap.size rfl rfl rfl ?_)
    | (with_reducible refine alloc_row_at (w3.heap.size + 1) (by simp) rfl rfl ?_)
    | (with_reducible refine store_row (.tmp 12) (.tmp 27) _ _ q t2 rfl rfl rfl rfl ?_)
    | (with_reducible refine store_row (.tmp 13) (.tmp 28) _ _ r u3 rfl rfl rfl rfl ?_)
    | fail)
  clear t2 t3 u3 x0 x1 v0 v1 hb3 vb hs3
  generalize (((w3.alloc (.cells (bw off) 29)).alloc (.cells (bw off) 29)).setRow w3.heap.size (bw q)).setRow (w3.heap.size + 1) (bw r) = V at *
  generalize w3.heap.size = H at *
  clear W
  go_wp2
  refine wp_region_any (by kernel_rfl) ?_
  change wpAny _ _ _ _ _ _ _ V.drew
  have a0 : Row V.drew G f := y0
  have a1 : Row V.drew (G + 1) g := y1
  have ab : Below w.heap.size w V.drew := yb.drew
  clear y0 y1 y2 y3 yb
  generalize V.drew = W4 at *
  refine wpAny_take (i := 0) (v := .int .i64 n) rfl (by kernel_rfl) (by kernel_rfl) (by kernel_rfl) (fun _ _ _ h => h) (Or.inl ⟨by rfl, fun _ => rfl⟩) ?_
  refine wpAny_take (i := 2) (v := .int .i64 n) rfl (by kernel_rfl) (by kernel_rfl) (by kernel_rfl) (fun _ _ _ h => h) (Or.inl ⟨by rfl, fun _ => rfl⟩) ?_
  simp [Act.put]
  refine wpAny_ready (rs := [1, 3]) (by kernel_rfl) (by simp) (AllReady.cons rfl (fun K hK => ?_) (AllReady.cons rfl (fun K hK => ?_) AllReady.nil))
  · with_reducible refine step_load (.tmp 10) G f a0 rfl rfl rfl ?_
    refine hK _ _ ?_
    clear hK K
    simp [Act.put]
    refine wpAny_ready (rs := [3]) (by kernel_rfl) (by simp) (AllReady.cons rfl (fun K hK => ?_) AllReady.nil)
    with_reducible refine step_load (.tmp 11) (G + 1) g a1 rfl rfl rfl ?_
    refine hK _ _ ?_
    clear hK K
    simp [Act.put]
    refine wpAny_ready (rs := [4]) (by kernel_rfl) (by simp) (AllReady.cons rfl (fun K hK => ?_) AllReady.nil)
    go_simp
    refine (not_any n g h2 _).mono ?_
    rintro e w5 ⟨rfl, hb5⟩
    refine hK _ _ ?_
    clear hK K
    have b0 := a0.below hb5 a0.lt
    have bb := ab.trans (hb5.mono ab.size)
    clear a0 a1 ab hb5
    refine wpAny_ready (rs := [5]) (by kernel_rfl) (by simp) (AllReady.cons rfl (fun K hK => ?_) AllReady.nil)
    go_simp
    refine (add_any n f (Wb.notB n g) true h2 _).mono ?_
    rintro e w6 ⟨rfl, hb6⟩
    refine hK _ _ ?_
    clear hK K
    have cb := bb.trans (hb6.mono bb.size)
    clear b0 bb hb6
    refine wpAny_ready (rs := [6]) (by kernel_rfl) (by simp) (AllReady.cons rfl (fun K hK => ?_) AllReady.nil)
    go_simp
    refine (num_any _ _).mono ?_
    rintro e w7 ⟨rfl, hb7⟩
    refine hK _ _ ?_
    clear hK K
    have db := cb.trans (hb7.mono cb.size)
    clear cb hb7
    refine wpAny_ready (rs := [7]) (by kernel_rfl) (by simp) (AllReady.cons rfl (fun K hK => ?_) AllReady.nil)
    go_simp
    refine hK _ _ ?_
    clear hK K
    refine wpAny_done (by kernel_rfl) ?_ _
    go_wp2
    go_ret
    exact ⟨rfl, db⟩
  · with_reducible refine step_load (.tmp 11) (G + 1) g a1 rfl rfl rfl ?_
    refine hK _ _ ?_
    clear hK K
    simp [Act.put]
    refine wpAny_ready (rs := [1, 4]) (by kernel_rfl) (by simp) (AllReady.cons rfl (fun K hK => ?_) (AllReady.cons rfl (fun K hK => ?_) AllReady.nil))
    · with_reducible refine step_load (.tmp 10) G f a0 rfl rfl rfl ?_
      refine hK _ _ ?_
      clear hK K
      simp [Act.put]
      refine wpAny_ready (rs := [4]) (by kernel_rfl) (by simp) (AllReady.cons rfl (fun K hK => ?_) AllReady.nil)
      go_simp
      refine (not_any n g h2 _).mono ?_
      rintro e w5 ⟨rfl, hb5⟩
      refine hK _ _ ?_
      clear hK K
      have b0 := a0.below hb5 a0.lt
      have bb := ab.trans (hb5.mono ab.size)
      clear a0 a1 ab hb5
      refine wpAny_ready (rs := [5]) (by kernel_rfl) (by simp) (AllReady.cons rfl (fun K hK => ?_) AllReady.nil)
      go_simp
      refine (add_any n f (Wb.notB n g) true h2 _).mono ?_
      rintro e w6 ⟨rfl, hb6⟩
      refine hK _ _ ?_
      clear hK K
      have cb := bb.trans (hb6.mono bb.size)
      clear b0 bb hb6
      refine wpAny_ready (rs := [6]) (by kernel_rfl) (by simp) (AllReady.cons rfl (fun K hK => ?_) AllReady.nil)
      go_simp
      refine (num_any _ _).mono ?_
      rintro e w7 ⟨rfl, hb7⟩
      refine hK _ _ ?_
      clear hK K
      have db := cb.trans (hb7.mono cb.size)
      clear cb hb7
      refine wpAny_ready (rs := [7]) (by kernel_rfl) (by simp) (AllReady.cons rfl (fun K hK => ?_) AllReady.nil)
      go_simp
      refine hK _ _ ?_
      clear hK K
      refine wpAny_done (by kernel_rfl) ?_ _
      go_wp2
      go_ret
      exact ⟨rfl, db⟩
    · go_simp
      refine (not_any n g h2 _).mono ?_
      rintro e w5 ⟨rfl, hb5⟩
      refine hK _ _ ?_
      clear hK K
      have b0 := a0.below hb5 a0.lt
      have bb := ab.trans (hb5.mono ab.size)
      clear a0 a1 ab hb5
      refine wpAny_ready (rs := [1]) (by kernel_rfl) (by simp) (AllReady.cons rfl (fun K hK => ?_) AllReady.nil)
      with_reducible refine step_load (.tmp 10) G f b0 rfl rfl rfl ?_
      refine hK _ _ ?_
      clear hK K
      simp [Act.put]
      refine wpAny_ready (rs := [5]) (by kernel_rfl) (by simp) (AllReady.cons rfl (fun K hK => ?_) AllReady.nil)
      go_simp
      refine (add_any n f (Wb.notB n g) true h2 _).mono ?_
      rintro e w6 ⟨rfl, hb6⟩
      refine hK _ _ ?_
      clear hK K
      have cb := bb.trans (hb6.mono bb.size)
      clear b0 bb hb6
      refine wpAny_ready (rs := [6]) (by kernel_rfl) (by simp) (AllReady.cons rfl (fun K hK => ?_) AllReady.nil)
      go_simp
      refine (num_any _ _).mono ?_
      rintro e w7 ⟨rfl, hb7⟩
      refine hK _ _ ?_
      clear hK K
      have db := cb.trans (hb7.mono cb.size)
      clear cb hb7
      refine wpAny_ready (rs := [7]) (by kernel_rfl) (by simp) (AllReady.cons rfl (fun K hK => ?_) AllReady.nil)
      go_simp
      refine hK _ _ ?_
      clear hK K
      refine wpAny_done (by kernel_rfl) ?_ _
      go_wp2
      go_ret
      exact ⟨rfl, db⟩

set_option maxRecDepth 100000 in
set_option maxHeartbeats 2000000 in
theorem rap_below1 (a : Int) (x y n : Nat) (f g q r : Nat → Bool) (HN : Hid (Wd.wid a = n)) (HF : Hid (Wb.ofB n x = f)) (HG : Hid (Wb.ofB n y = g)) (HQ : Hid ((Wb.qr n f g).1 = q)) (HR : Hid ((Wb.qr n f g).2 = r)) (hx : x < 18446744073709551616) (hy : y < 18446744073709551616) (h1 : 1 ≤ n) (h2 : n ≤ 64) (hne : (f (n - 1) == g (n - 1)) = false) (w : World) :
    Calls Try.prog 12 #[.int .i64 21, .int .i64 a, .int .u64 x, .int .u64 y] w fun e w' => e = .returned (.int .u64 (Wb.val (upd off 0 (f (n - 1))) 64 : Nat)) ∧ Below w.heap.size w w' := by
  go_enter Try.func12, Try.ntmps12
  go_wp2_with fail
  refine (rwidth_any _ _).mono ?_
  rintro e w' ⟨rfl, rfl⟩
  rw [HN.out]
  go_wp2_with fail
  refine (of_any n x h2 hx _).mono ?_
  rintro e w1 ⟨rfl, hb1⟩
  rw [HF.out]
  go_wp2_with fail
  refine (of_any n y h2 hy _).mono ?_
  rintro e w2 ⟨rfl, hb2⟩
  rw [HG.out]
  have hs1 := hb1.size
  have hs2 := hb2.size
  have hbb := hb1.trans (hb2.mono hs1)
  have t0 := (Row.new w2 off).alloc (.cells (bw off) 29)
  have t1 := Row.new_at (w2.alloc (.cells (bw off) 29)) off (g := w2.heap.size + 1) (by simp)
  have u0 := t0.row_same f
  have u1 := t1.row_other (k := w2.heap.size) (by omega) (bw f)
  have v0 := u0.row_other (k := w2.heap.size + 1) (by omega) (bw g)
  have v1 := u1.row_same g
  have vb := below_setRow (below_setRow ((hbb.alloc (by omega) (.cells (bw off) 29)).alloc (by simp; omega) (.cells (bw off) 29)) (show w.heap.size ≤ w2.heap.size by omega) (bw f)) (show w.heap.size ≤ w2.heap.size + 1 by omega) (bw g)
  go_upto_region 3 with (first
    | (with_reducible refine alloc_row_at w2.heap.size rfl rfl rfl ?_)
    | (with_reducible refine alloc_row_at (w2.heap.size + 1) (by simp) rfl rfl ?_)
    | (with_reducible refine store_row (.tmp 10) (.tmp 18) _ _ f t0 rfl rfl rfl rfl ?_)
    | (with_reducible refine store_row (.tmp 11) (.tmp 21) _ _ g u1 rfl rfl rfl rfl ?_)
    | fail)
  clear t0 t1 u0 u1 hb1 hb2 hbb
  generalize (((w2.alloc (.cells (bw off) 29)).alloc (.cells (bw off) 29)).setRow w2.heap.size (bw f)).setRow (w2.heap.size + 1) (bw g) = W at *
  generalize w2.heap.size = G at *
  clear hs1 hs2
  go_wp2_with (first
    | (with_reducible refine load_row (.tmp 10) _ _ v0 rfl rfl rfl ?_)
    | (with_reducible refine load_row (.tmp 11) _ _ v1 rfl rfl rfl ?_)
    | fail)
  refine (rdiv_any n f g h1 h2 _).mono ?_
  rintro e w3 ⟨rfl, hb3⟩
  rw [HQ.out, HR.out]
  have x0 := ((v0.below hb3 v0.lt).alloc (.cells (bw off) 29)).alloc (.cells (bw off) 29)
  have x1 := ((v1.below hb3 v1.lt).alloc (.cells (bw off) 29)).alloc (.cells (bw off) 29)
  have l1 : G + 1 < w3.heap.size := by have := v1.lt; have := hb3.size; omega
  have hs3 : w.heap.size ≤ w3.heap.size := by have := hb3.size; have := vb.size; omega
  have t2 := (Row.new w3 off).alloc (.cells (bw off) 29)
  have t3 := Row.new_at (w3.alloc (.cells (bw off) 29)) off (g := w3.heap.size + 1) (by simp)
  have u3 := t3.row_other (k := w3.heap.size) (by omega) (bw q)
  have y0 := (x0.row_other (k := w3.heap.size) (by omega) (bw q)).row_other (k := w3.heap.size + 1) (by omega) (bw r)
  have y1 := (x1.row_other (k := w3.heap.size) (by omega) (bw q)).row_other (k := w3.heap.size + 1) (by omega) (bw r)
  have y2 := (t2.row_same q).row_other (k := w3.heap.size + 1) (by omega) (bw r)
  have y3 := u3.row_same r
  have yb := below_setRow (below_setRow ((((vb.trans (hb3.mono vb.size)).alloc (by omega) (.cells (bw off) 29)).alloc (by simp; omega) (.cells (bw off) 29))) (show w.heap.size ≤ w3.heap.size by omega) (bw q)) (show w.heap.size ≤ w3.heap.size + 1 by omega) (bw r)
  go_upto_region 4 with (first
    | (with_reducible refine alloc_row_at w3.heap.size rfl rfl rfl ?_)
    | (with_reducible refine alloc_row_at (w3.heap.size + 1) (by simp) rfl rfl ?_)
    | (with_reducible refine store_row (.tmp 12) (.tmp 27) _ _ q t2 rfl rfl rfl rfl ?_)
    | (with_reducible refine store_row (.tmp 13) (.tmp 28) _ _ r u3 rfl rfl rfl rfl ?_)
    | fail)
  clear t2 t3 u3 x0 x1 v0 v1 hb3 vb hs3
  generalize (((w3.alloc (.cells (bw off) 29)).alloc (.cells (bw off) 29)).setRow w3.heap.size (bw q)).setRow (w3.heap.size + 1) (bw r) = V at *
  generalize w3.heap.size = H at *
  clear W
  have c0 := y0.cell (j := n - 1) (by omega)
  have c1 := y1.cell (j := n - 1) (by omega)
  have hc1 : ((n : Int) - 1).toNat = n - 1 := by omega
  have hc2 : 0 ≤ (n : Int) - 1 := by omega
  have hc3 : (n : Int) - 1 < 64 := by omega
  have y0' := y0
  have y1' := y1
  go_wp2
  go_quiet (fail)
  have z0 := y0.drewN nq
  have z1 := y1.drewN nq
  have zb := below_drewN yb nq
  clear y0 y1 y2 y3 yb y0' y1'
  go_wp2_with fail
  refine (truth_any _ _).mono ?_
  rintro e w4 ⟨rfl, b4⟩
  go_wp2_with fail
  refine (num_any _ _).mono ?_
  rintro e w5 ⟨rfl, b5⟩
  go_wp2
  go_ret
  have hb := zb.trans (b4.mono zb.size)
  exact ⟨rfl, hb.trans (b5.mono hb.size)⟩

set_option maxRecDepth 100000 in
set_option maxHeartbeats 2000000 in
theorem rap_below2 (a : Int) (x y n : Nat) (f g q r : Nat → Bool) (HN : Hid (Wd.wid a = n)) (HF : Hid (Wb.ofB n x = f)) (HG : Hid (Wb.ofB n y = g)) (HQ : Hid ((Wb.qr n f g).1 = q)) (HR : Hid ((Wb.qr n f g).2 = r)) (hx : x < 18446744073709551616) (hy : y < 18446744073709551616) (h1 : 1 ≤ n) (h2 : n ≤ 64) (b : Bool) (HL : Hid (decide (Wb.val f n < Wb.val g n) = b)) (hne : (f (n - 1) == g (n - 1)) = true) (w : World) :
    Calls Try.prog 12 #[.int .i64 21, .int .i64 a, .int .u64 x, .int .u64 y] w fun e w' => e = .returned (.int .u64 (Wb.val (upd off 0 b) 64 : Nat)) ∧ Below w.heap.size w w' := by
  go_enter Try.func12, Try.ntmps12
  go_wp2_with fail
  refine (rwidth_any _ _).mono ?_
  rintro e w' ⟨rfl, rfl⟩
  rw [HN.out]
  go_wp2_with fail
  refine (of_any n x h2 hx _).mono ?_
  rintro e w1 ⟨rfl, hb1⟩
  rw [HF.out]
  go_wp2_with fail
  refine (of_any n y h2 hy _).mono ?_
  rintro e w2 ⟨rfl, hb2⟩
  rw [HG.out]
  have hs1 := hb1.size
  have hs2 := hb2.size
  have hbb := hb1.trans (hb2.mono hs1)
  have t0 := (Row.new w2 off).alloc (.cells (bw off) 29)
  have t1 := Row.new_at (w2.alloc (.cells (bw off) 29)) off (g := w2.heap.size + 1) (by simp)
  have u0 := t0.row_same f
  have u1 := t1.row_other (k := w2.heap.size) (by omega) (bw f)
  have v0 := u0.row_other (k := w2.heap.size + 1) (by omega) (bw g)
  have v1 := u1.row_same g
  have vb := below_setRow (below_setRow ((hbb.alloc (by omega) (.cells (bw off) 29)).alloc (by simp; omega) (.cells (bw off) 29)) (show w.heap.size ≤ w2.heap.size by omega) (bw f)) (show w.heap.size ≤ w2.heap.size + 1 by omega) (bw g)
  go_upto_region 3 with (first
    | (with_reducible refine alloc_row_at w2.heap.size rfl rfl rfl ?_)
    | (with_reducible refine alloc_row_at (w2.heap.size + 1) (by simp) rfl rfl ?_)
    | (with_reducible refine store_row (.tmp 10) (.tmp 18) _ _ f t0 rfl rfl rfl rfl ?_)
    | (with_reducible refine store_row (.tmp 11) (.tmp 21) _ _ g u1 rfl rfl rfl rfl ?_)
    | fail)
  clear t0 t1 u0 u1 hb1 hb2 hbb
  generalize (((w2.alloc (.cells (bw off) 29)).alloc (.cells (bw off) 29)).setRow w2.heap.size (bw f)).setRow (w2.heap.size + 1) (bw g) = W at *
  generalize w2.heap.size = G at *
  clear hs1 hs2
  go_wp2_with (first
    | (with_reducible refine load_row (.tmp 10) _ _ v0 rfl rfl rfl ?_)
    | (with_reducible refine load_row (.tmp 11) _ _ v1 rfl rfl rfl ?_)
    | fail)
  refine (rdiv_any n f g h1 h2 _).mono ?_
  rintro e w3 ⟨rfl, hb3⟩
  rw [HQ.out, HR.out]
  have x0 := ((v0.below hb3 v0.lt).alloc (.cells (bw off) 29)).alloc (.cells (bw off) 29)
  have x1 := ((v1.below hb3 v1.lt).alloc (.cells (bw off) 29)).alloc (.cells (bw off) 29)
  have l1 : G + 1 < w3.heap.size := by have := v1.lt; have := hb3.size; omega
  have hs3 : w.heap.size ≤ w3.heap.size := by have := hb3.size; have := vb.size; omega
  have t2 := (Row.new w3 off).alloc (.cells (bw off) 29)
  have t3 := Row.new_at (w3.alloc (.cells (bw off) 29)) off (g := w3.heap.size + 1) (by simp)
  have u3 := t3.row_other (k := w3.heap.size) (by omega) (bw q)
  have y0 := (x0.row_other (k := w3.heap.size) (by omega) (bw q)).row_other (k := w3.heap.size + 1) (by omega) (bw r)
  have y1 := (x1.row_other (k := w3.heap.size) (by omega) (bw q)).row_other (k := w3.heap.size + 1) (by omega) (bw r)
  have y2 := (t2.row_same q).row_other (k := w3.heap.size + 1) (by omega) (bw r)
  have y3 := u3.row_same r
  have yb := below_setRow (below_setRow ((((vb.trans (hb3.mono vb.size)).alloc (by omega) (.cells (bw off) 29)).alloc (by simp; omega) (.cells (bw off) 29))) (show w.heap.size ≤ w3.heap.size by omega) (bw q)) (show w.heap.size ≤ w3.heap.size + 1 by omega) (bw r)
  go_upto_region 4 with (first
    | (with_reducible refine alloc_row_at w3.heap.size rfl rfl rfl ?_)
    | (with_reducible refine alloc_row_at (w3.heap.size + 1) (by simp) rfl rfl ?_)
    | (with_reducible refine store_row (.tmp 12) (.tmp 27) _ _ q t2 rfl rfl rfl rfl ?_)
    | (with_reducible refine store_row (.tmp 13) (.tmp 28) _ _ r u3 rfl rfl rfl rfl ?_)
    | fail)
  clear t2 t3 u3 x0 x1 v0 v1 hb3 vb hs3
  generalize (((w3.alloc (.cells (bw off) 29)).alloc (.cells (bw off) 29)).setRow w3.heap.size (bw q)).setRow (w3.heap.size + 1) (bw r) = V at *
  generalize w3.heap.size = H at *
  clear W
  have c0 := y0.cell (j := n - 1) (by omega)
  have c1 := y1.cell (j := n - 1) (by omega)
  have hc1 : ((n : Int) - 1).toNat = n - 1 := by omega
  have hc2 : 0 ≤ (n : Int) - 1 := by omega
  have hc3 : (n : Int) - 1 < 64 := by omega
  have y0' := y0
  have y1' := y1
  go_wp2
  go_quiet (fail)
  have z0 := y0.drewN nq
  have z1 := y1.drewN nq
  have zb := below_drewN yb nq
  clear y0 y1 y2 y3 yb y0' y1'
  go_wp2_with (first
    | (with_reducible refine load_row (.tmp 10) _ _ z0 rfl rfl rfl ?_)
    | (with_reducible refine load_row (.tmp 11) _ _ z1 rfl rfl rfl ?_)
    | fail)
  refine (less_any' n f g h2 _).mono ?_
  rintro e w40 ⟨rfl, b40⟩
  rw [HL.out]
  go_wp2_with fail
  have yb' := zb.trans (b40.mono zb.size)
  clear zb b40
  refine (truth_any _ _).mono ?_
  rintro e w4 ⟨rfl, b4⟩
  go_wp2_with fail
  refine (num_any _ _).mono ?_
  rintro e w5 ⟨rfl, b5⟩
  go_wp2
  go_ret
  have hb := yb'.trans (b4.mono yb'.size)
  exact ⟨rfl, hb.trans (b5.mono hb.size)⟩
end Go.Proofs.Ytmdopndlnnapiaa
