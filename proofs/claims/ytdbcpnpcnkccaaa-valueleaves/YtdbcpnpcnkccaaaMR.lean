/-
  The contract of the reference's Apply: the difference, the order by signs.
  More plain arithmetic for the laws on orders and shifts.
  Plain arithmetic: what the bit-by-bit answers of the reference come to, as numbers.
  Plain arithmetic: the reference's answers are the words' own.
  The contracts of the reference's Apply, Sign, Mask, Of and Num, in the words' own numbers.
-/
import Derived.Test.YtdbcpnpcnkccaaaMQ
import Derived.Test.YtdbcpnpcnkccaaaMA
import Derived.Test.YtdbcpnpcnkccaaaMO
import Derived.Test.YtdbcpnpcnkccaaaMP
set_option linter.unusedSimpArgs false
set_option linter.unusedVariables false
namespace Go.Proofs.Ytdbcpnpcnkccaaa
set_option maxRecDepth 100000
open Go.RowKit

set_option maxRecDepth 100000 in
set_option maxHeartbeats 2000000 in
theorem rap_sub (a : Int) (x y n : Nat) (f g q r : Nat → Bool) (HN : Hid (Wd.wid a = n)) (HF : Hid (Wb.ofB n x = f)) (HG : Hid (Wb.ofB n y = g)) (HQ : Hid ((Wb.qr n f g).1 = q)) (HR : Hid ((Wb.qr n f g).2 = r)) (hx : x < 18446744073709551616) (hy : y < 18446744073709551616) (h1 : 1 ≤ n) (h2 : n ≤ 64) (w : World) :
    Calls Try.prog 109 #[.int .i64 9, .int .i64 a, .int .u64 x, .int .u64 y] w fun e w' => e = .returned (.int .u64 (Wb.val (Wb.addB n f (Wb.notB n g) true) 64 : Nat)) ∧ Below w.heap.size w w' := by
  go_enter Try.func109, Try.ntmps109
  go_wp2_with fail
  refine (wd_rwidth_any _ _).mono ?_
  rintro e w' ⟨rfl, rfl⟩
  rw [HN.out]
  go_wp2_with fail
  refine (of_any n x h2 hx _).mono ?_
  rintro e w1 ⟨rfl, hb1⟩
  rw [HF.out]
  go_wp2_with fail
  refine (of_any n y h2 hy _).mono ?_
  rintro e w2 ⟨rfl, hb2⟩
  rw [HG.out]
  have hs1 := hb1.size
  have hs2 := hb2.size
  have hbb := hb1.trans (hb2.mono hs1)
  have t0 := (Row.new w2 off).alloc (.cells (bw off) 161)
  have t1 := Row.new_at (w2.alloc (.cells (bw off) 161)) off (g := w2.heap.size + 1) (by simp)
  have u0 := t0.row_same f
  have u1 := t1.row_other (k := w2.heap.size) (by omega) (bw f)
  have v0 := u0.row_other (k := w2.heap.size + 1) (by omega) (bw g)
  have v1 := u1.row_same g
  have vb := below_setRow (below_setRow ((hbb.alloc (by omega) (.cells (bw off) 161)).alloc (by simp; omega) (.cells (bw off) 161)) (show w.heap.size ≤ w2.heap.size by omega) (bw f)) (show w.heap.size ≤ w2.heap.size + 1 by omega) (bw g)
  go_upto_region 3 with (first
    | (with_reducible refine alloc_row_at w2.heap.size rfl rfl rfl ?_)
    | (with_reducible refine alloc_row_at (w2.heap.size + 1) (by simp) rfl rfl ?_)
    | (with_reducible refine store_row (.tmp 10) (.tmp 18) _ _ f t0 rfl rfl rfl rfl ?_)
    | (with_reducible refine store_row (.tmp 11) (.tmp 21) _ _ g u1 rfl rfl rfl rfl ?_)
    | fail)
  clear t0 t1 u0 u1 hb1 hb2 hbb
  generalize (((w2.alloc (.cells (bw off) 161)).alloc (.cells (bw off) 161)).setRow w2.heap.size (bw f)).setRow (w2.heap.size + 1) (bw g) = W at *
  generalize w2.heap.size = G at *
  clear hs1 hs2
  go_wp2_with (first
    | (with_reducible refine load_row (.tmp 10) _ _ v0 rfl rfl rfl ?_)
    | (with_reducible refine load_row (.tmp 11) _ _ v1 rfl rfl rfl ?_)
    | fail)
  refine (rdiv_any n f g h1 h2 _).mono ?_
  rintro e w3 ⟨rfl, hb3⟩
  rw [HQ.out, HR.out]
  have x0 := ((v0.below hb3 v0.lt).alloc (.cells (bw off) 161)).alloc (.cells (bw off) 161)
  have x1 := ((v1.below hb3 v1.lt).alloc (.cells (bw off) 161)).alloc (.cells (bw off) 161)
  have l1 : G + 1 < w3.heap.size := by have := v1.lt; have := hb3.size; omega
  have hs3 : w.heap.size ≤ w3.heap.size := by have := hb3.size; have := vb.size; omega
  have t2 := (Row.new w3 off).alloc (.cells (bw off) 161)
  have t3 := Row.new_at (w3.alloc (.cells (bw off) 161)) off (g := w3.heap.size + 1) (by simp)
  have u3 := t3.row_other (k := w3.heap.size) (by omega) (bw q)
  have y0 := (x0.row_other (k := w3.heap.size) (by omega) (bw q)).row_other (k := w3.heap.size + 1) (by omega) (bw r)
  have y1 := (x1.row_other (k := w3.heap.size) (by omega) (bw q)).row_other (k := w3.heap.size + 1) (by omega) (bw r)
  have y2 := (t2.row_same q).row_other (k := w3.heap.size + 1) (by omega) (bw r)
  have y3 := u3.row_same r
  have yb := below_setRow (below_setRow ((((vb.trans (hb3.mono vb.size)).alloc (by omega) (.cells (bw off) 161)).alloc (by simp; omega) (.cells (bw off) 161))) (show w.heap.size ≤ w3.heap.size by omega) (bw q)) (show w.heap.size ≤ w3.heap.size + 1 by omega) (bw r)
  go_upto_region 4 with (first
    | (with_reducible refine alloc_row_at w3.heap.size rfl rfl rfl ?_)
    | (with_reducible refine alloc_row_at (w3.heap.size + 1) (by simp) rfl rfl ?_)
    | (with_reducible refine store_row (.tmp 12) (.tmp 27) _ _ q t2 rfl rfl rfl rfl ?_)
    | (with_reducible refine store_row (.tmp 13) (.tmp 28) _ _ r u3 rfl rfl rfl rfl ?_)
    | fail)
  clear t2 t3 u3 x0 x1 v0 v1 hb3 vb hs3
  generalize (((w3.alloc (.cells (bw off) 161)).alloc (.cells (bw off) 161)).setRow w3.heap.size (bw q)).setRow (w3.heap.size + 1) (bw r) = V at *
  generalize w3.heap.size = H at *
  clear W
  go_wp2
  refine wp_region_any (by kernel_rfl) ?_
  change wpAny _ _ _ _ _ _ _ V.drew
  have a0 : Row V.drew G f := y0
  have a1 : Row V.drew (G + 1) g := y1
  have ab : Below w.heap.size w V.drew := yb.drew
  clear y0 y1 y2 y3 yb
  generalize V.drew = W4 at *
  refine wpAny_take (i := 0) (v := .int .i64 n) rfl (by kernel_rfl) (by kernel_rfl) (by kernel_rfl) (fun _ _ _ h => h) (Or.inl ⟨by rfl, fun _ => rfl⟩) ?_
  refine wpAny_take (i := 2) (v := .int .i64 n) rfl (by kernel_rfl) (by kernel_rfl) (by kernel_rfl) (fun _ _ _ h => h) (Or.inl ⟨by rfl, fun _ => rfl⟩) ?_
  simp [Act.put]
  refine wpAny_ready (rs := [1, 3]) (by kernel_rfl) (by simp) (AllReady.cons rfl (fun K hK => ?_) (AllReady.cons rfl (fun K hK => ?_) AllReady.nil))
  · with_reducible refine step_load (.tmp 10) G f a0 rfl rfl rfl ?_
    refine hK _ _ ?_
    clear hK K
    simp [Act.put]
    refine wpAny_ready (rs := [3]) (by kernel_rfl) (by simp) (AllReady.cons rfl (fun K hK => ?_) AllReady.nil)
    with_reducible refine step_load (.tmp 11) (G + 1) g a1 rfl rfl rfl ?_
    refine hK _ _ ?_
    clear hK K
    simp [Act.put]
    refine wpAny_ready (rs := [4]) (by kernel_rfl) (by simp) (AllReady.cons rfl (fun K hK => ?_) AllReady.nil)
    go_simp
    refine (not_any n g h2 _).mono ?_
    rintro e w5 ⟨rfl, hb5⟩
    refine hK _ _ ?_
    clear hK K
    have b0 := a0.below hb5 a0.lt
    have bb := ab.trans (hb5.mono ab.size)
    clear a0 a1 ab hb5
    refine wpAny_ready (rs := [5]) (by kernel_rfl) (by simp) (AllReady.cons rfl (fun K hK => ?_) AllReady.nil)
    go_simp
    refine (add_any n f (Wb.notB n g) true h2 _).mono ?_
    rintro e w6 ⟨rfl, hb6⟩
    refine hK _ _ ?_
    clear hK K
    have cb := bb.trans (hb6.mono bb.size)
    clear b0 bb hb6
    refine wpAny_ready (rs := [6]) (by kernel_rfl) (by simp) (AllReady.cons rfl (fun K hK => ?_) AllReady.nil)
    go_simp
    refine (num_any _ _).mono ?_
    rintro e w7 ⟨rfl, hb7⟩
    refine hK _ _ ?_
    clear hK K
    have db := cb.trans (hb7.mono cb.size)
    clear cb hb7
    refine wpAny_ready (rs := [7]) (by kernel_rfl) (by simp) (AllReady.cons rfl (fun K hK => ?_) AllReady.nil)
    go_simp
    refine hK _ _ ?_
    clear hK K
    refine wpAny_done (by kernel_rfl) ?_ _
    go_wp2
    go_ret
    exact ⟨rfl, db⟩
  · with_reducible refine step_load (.tmp 11) (G + 1) g a1 rfl rfl rfl ?_
    refine hK _ _ ?_
    clear hK K
    simp [Act.put]
    refine wpAny_ready (rs := [1, 4]) (by kernel_rfl) (by simp) (AllReady.cons rfl (fun K hK => ?_) (AllReady.cons rfl (fun K hK => ?_) AllReady.nil))
    · with_reducible refine step_load (.tmp 10) G f a0 rfl rfl rfl ?_
      refine hK _ _ ?_
      clear hK K
      simp [Act.put]
      refine wpAny_ready (rs := [4]) (by kernel_rfl) (by simp) (AllReady.cons rfl (fun K hK => ?_) AllReady.nil)
      go_simp
      refine (not_any n g h2 _).mono ?_
      rintro e w5 ⟨rfl, hb5⟩
      refine hK _ _ ?_
      clear hK K
      have b0 := a0.below hb5 a0.lt
      have bb := ab.trans (hb5.mono ab.size)
      clear a0 a1 ab hb5
      refine wpAny_ready (rs := [5]) (by kernel_rfl) (by simp) (AllReady.cons rfl (fun K hK => ?_) AllReady.nil)
      go_simp
      refine (add_any n f (Wb.notB n g) true h2 _).mono ?_
      rintro e w6 ⟨rfl, hb6⟩
      refine hK _ _ ?_
      clear hK K
      have cb := bb.trans (hb6.mono bb.size)
      clear b0 bb hb6
      refine wpAny_ready (rs := [6]) (by kernel_rfl) (by simp) (AllReady.cons rfl (fun K hK => ?_) AllReady.nil)
      go_simp
      refine (num_any _ _).mono ?_
      rintro e w7 ⟨rfl, hb7⟩
      refine hK _ _ ?_
      clear hK K
      have db := cb.trans (hb7.mono cb.size)
      clear cb hb7
      refine wpAny_ready (rs := [7]) (by kernel_rfl) (by simp) (AllReady.cons rfl (fun K hK => ?_) AllReady.nil)
      go_simp
      refine hK _ _ ?_
      clear hK K
      refine wpAny_done (by kernel_rfl) ?_ _
      go_wp2
      go_ret
      exact ⟨rfl, db⟩
    · go_simp
      refine (not_any n g h2 _).mono ?_
      rintro e w5 ⟨rfl, hb5⟩
      refine hK _ _ ?_
      clear hK K
      have b0 := a0.below hb5 a0.lt
      have bb := ab.trans (hb5.mono ab.size)
      clear a0 a1 ab hb5
      refine wpAny_ready (rs := [1]) (by kernel_rfl) (by simp) (AllReady.cons rfl (fun K hK => ?_) AllReady.nil)
      with_reducible refine step_load (.tmp 10) G f b0 rfl rfl rfl ?_
      refine hK _ _ ?_
      clear hK K
      simp [Act.put]
      refine wpAny_ready (rs := [5]) (by kernel_rfl) (by simp) (AllReady.cons rfl (fun K hK => ?_) AllReady.nil)
      go_simp
      refine (add_any n f (Wb.notB n g) true h2 _).mono ?_
      rintro e w6 ⟨rfl, hb6⟩
      refine hK _ _ ?_
      clear hK K
      have cb := bb.trans (hb6.mono bb.size)
      clear b0 bb hb6
      refine wpAny_ready (rs := [6]) (by kernel_rfl) (by simp) (AllReady.cons rfl (fun K hK => ?_) AllReady.nil)
      go_simp
      refine (num_any _ _).mono ?_
      rintro e w7 ⟨rfl, hb7⟩
      refine hK _ _ ?_
      clear hK K
      have db := cb.trans (hb7.mono cb.size)
      clear cb hb7
      refine wpAny_ready (rs := [7]) (by kernel_rfl) (by simp) (AllReady.cons rfl (fun K hK => ?_) AllReady.nil)
      go_simp
      refine hK _ _ ?_
      clear hK K
      refine wpAny_done (by kernel_rfl) ?_ _
      go_wp2
      go_ret
      exact ⟨rfl, db⟩

set_option maxRecDepth 100000 in
set_option maxHeartbeats 2000000 in
theorem rap_below1 (a : Int) (x y n : Nat) (f g q r : Nat → Bool) (HN : Hid (Wd.wid a = n)) (HF : Hid (Wb.ofB n x = f)) (HG : Hid (Wb.ofB n y = g)) (HQ : Hid ((Wb.qr n f g).1 = q)) (HR : Hid ((Wb.qr n f g).2 = r)) (hx : x < 18446744073709551616) (hy : y < 18446744073709551616) (h1 : 1 ≤ n) (h2 : n ≤ 64) (hne : (f (n - 1) == g (n - 1)) = false) (w : World) :
    Calls Try.prog 109 #[.int .i64 21, .int .i64 a, .int .u64 x, .int .u64 y] w fun e w' => e = .returned (.int .u64 (Wb.val (upd off 0 (f (n - 1))) 64 : Nat)) ∧ Below w.heap.size w w' := by
  go_enter Try.func109, Try.ntmps109
  go_wp2_with fail
  refine (wd_rwidth_any _ _).mono ?_
  rintro e w' ⟨rfl, rfl⟩
  rw [HN.out]
  go_wp2_with fail
  refine (of_any n x h2 hx _).mono ?_
  rintro e w1 ⟨rfl, hb1⟩
  rw [HF.out]
  go_wp2_with fail
  refine (of_any n y h2 hy _).mono ?_
  rintro e w2 ⟨rfl, hb2⟩
  rw [HG.out]
  have hs1 := hb1.size
  have hs2 := hb2.size
  have hbb := hb1.trans (hb2.mono hs1)
  have t0 := (Row.new w2 off).alloc (.cells (bw off) 161)
  have t1 := Row.new_at (w2.alloc (.cells (bw off) 161)) off (g := w2.heap.size + 1) (by simp)
  have u0 := t0.row_same f
  have u1 := t1.row_other (k := w2.heap.size) (by omega) (bw f)
  have v0 := u0.row_other (k := w2.heap.size + 1) (by omega) (bw g)
  have v1 := u1.row_same g
  have vb := below_setRow (below_setRow ((hbb.alloc (by omega) (.cells (bw off) 161)).alloc (by simp; omega) (.cells (bw off) 161)) (show w.heap.size ≤ w2.heap.size by omega) (bw f)) (show w.heap.size ≤ w2.heap.size + 1 by omega) (bw g)
  go_upto_region 3 with (first
    | (with_reducible refine alloc_row_at w2.heap.size rfl rfl rfl ?_)
    | (with_reducible refine alloc_row_at (w2.heap.size + 1) (by simp) rfl rfl ?_)
    | (with_reducible refine store_row (.tmp 10) (.tmp 18) _ _ f t0 rfl rfl rfl rfl ?_)
    | (with_reducible refine store_row (.tmp 11) (.tmp 21) _ _ g u1 rfl rfl rfl rfl ?_)
    | fail)
  clear t0 t1 u0 u1 hb1 hb2 hbb
  generalize (((w2.alloc (.cells (bw off) 161)).alloc (.cells (bw off) 161)).setRow w2.heap.size (bw f)).setRow (w2.heap.size + 1) (bw g) = W at *
  generalize w2.heap.size = G at *
  clear hs1 hs2
  go_wp2_with (first
    | (with_reducible refine load_row (.tmp 10) _ _ v0 rfl rfl rfl ?_)
    | (with_reducible refine load_row (.tmp 11) _ _ v1 rfl rfl rfl ?_)
    | fail)
  refine (rdiv_any n f g h1 h2 _).mono ?_
  rintro e w3 ⟨rfl, hb3⟩
  rw [HQ.out, HR.out]
  have x0 := ((v0.below hb3 v0.lt).alloc (.cells (bw off) 161)).alloc (.cells (bw off) 161)
  have x1 := ((v1.below hb3 v1.lt).alloc (.cells (bw off) 161)).alloc (.cells (bw off) 161)
  have l1 : G + 1 < w3.heap.size := by have := v1.lt; have := hb3.size; omega
  have hs3 : w.heap.size ≤ w3.heap.size := by have := hb3.size; have := vb.size; omega
  have t2 := (Row.new w3 off).alloc (.cells (bw off) 161)
  have t3 := Row.new_at (w3.alloc (.cells (bw off) 161)) off (g := w3.heap.size + 1) (by simp)
  have u3 := t3.row_other (k := w3.heap.size) (by omega) (bw q)
  have y0 := (x0.row_other (k := w3.heap.size) (by omega) (bw q)).row_other (k := w3.heap.size + 1) (by omega) (bw r)
  have y1 := (x1.row_other (k := w3.heap.size) (by omega) (bw q)).row_other (k := w3.heap.size + 1) (by omega) (bw r)
  have y2 := (t2.row_same q).row_other (k := w3.heap.size + 1) (by omega) (bw r)
  have y3 := u3.row_same r
  have yb := below_setRow (below_setRow ((((vb.trans (hb3.mono vb.size)).alloc (by omega) (.cells (bw off) 161)).alloc (by simp; omega) (.cells (bw off) 161))) (show w.heap.size ≤ w3.heap.size by omega) (bw q)) (show w.heap.size ≤ w3.heap.size + 1 by omega) (bw r)
  go_upto_region 4 with (first
    | (with_reducible refine alloc_row_at w3.heap.size rfl rfl rfl ?_)
    | (with_reducible refine alloc_row_at (w3.heap.size + 1) (by simp) rfl rfl ?_)
    | (with_reducible refine store_row (.tmp 12) (.tmp 27) _ _ q t2 rfl rfl rfl rfl ?_)
    | (with_reducible refine store_row (.tmp 13) (.tmp 28) _ _ r u3 rfl rfl rfl rfl ?_)
    | fail)
  clear t2 t3 u3 x0 x1 v0 v1 hb3 vb hs3
  generalize (((w3.alloc (.cells (bw off) 161)).alloc (.cells (bw off) 161)).setRow w3.heap.size (bw q)).setRow (w3.heap.size + 1) (bw r) = V at *
  generalize w3.heap.size = H at *
  clear W
  have c0 := y0.cell (j := n - 1) (by omega)
  have c1 := y1.cell (j := n - 1) (by omega)
  have hc1 : ((n : Int) - 1).toNat = n - 1 := by omega
  have hc2 : 0 ≤ (n : Int) - 1 := by omega
  have hc3 : (n : Int) - 1 < 64 := by omega
  have y0' := y0
  have y1' := y1
  go_wp2
  go_quiet (fail)
  have z0 := y0.drewN nq
  have z1 := y1.drewN nq
  have zb := below_drewN yb nq
  clear y0 y1 y2 y3 yb y0' y1'
  go_wp2_with fail
  refine (truth_any _ _).mono ?_
  rintro e w4 ⟨rfl, b4⟩
  go_wp2_with fail
  refine (num_any _ _).mono ?_
  rintro e w5 ⟨rfl, b5⟩
  go_wp2
  go_ret
  have hb := zb.trans (b4.mono zb.size)
  exact ⟨rfl, hb.trans (b5.mono hb.size)⟩

set_option maxRecDepth 100000 in
set_option maxHeartbeats 2000000 in
theorem rap_below2 (a : Int) (x y n : Nat) (f g q r : Nat → Bool) (HN : Hid (Wd.wid a = n)) (HF : Hid (Wb.ofB n x = f)) (HG : Hid (Wb.ofB n y = g)) (HQ : Hid ((Wb.qr n f g).1 = q)) (HR : Hid ((Wb.qr n f g).2 = r)) (hx : x < 18446744073709551616) (hy : y < 18446744073709551616) (h1 : 1 ≤ n) (h2 : n ≤ 64) (b : Bool) (HL : Hid (decide (Wb.val f n < Wb.val g n) = b)) (hne : (f (n - 1) == g (n - 1)) = true) (w : World) :
    Calls Try.prog 109 #[.int .i64 21, .int .i64 a, .int .u64 x, .int .u64 y] w fun e w' => e = .returned (.int .u64 (Wb.val (upd off 0 b) 64 : Nat)) ∧ Below w.heap.size w w' := by
  go_enter Try.func109, Try.ntmps109
  go_wp2_with fail
  refine (wd_rwidth_any _ _).mono ?_
  rintro e w' ⟨rfl, rfl⟩
  rw [HN.out]
  go_wp2_with fail
  refine (of_any n x h2 hx _).mono ?_
  rintro e w1 ⟨rfl, hb1⟩
  rw [HF.out]
  go_wp2_with fail
  refine (of_any n y h2 hy _).mono ?_
  rintro e w2 ⟨rfl, hb2⟩
  rw [HG.out]
  have hs1 := hb1.size
  have hs2 := hb2.size
  have hbb := hb1.trans (hb2.mono hs1)
  have t0 := (Row.new w2 off).alloc (.cells (bw off) 161)
  have t1 := Row.new_at (w2.alloc (.cells (bw off) 161)) off (g := w2.heap.size + 1) (by simp)
  have u0 := t0.row_same f
  have u1 := t1.row_other (k := w2.heap.size) (by omega) (bw f)
  have v0 := u0.row_other (k := w2.heap.size + 1) (by omega) (bw g)
  have v1 := u1.row_same g
  have vb := below_setRow (below_setRow ((hbb.alloc (by omega) (.cells (bw off) 161)).alloc (by simp; omega) (.cells (bw off) 161)) (show w.heap.size ≤ w2.heap.size by omega) (bw f)) (show w.heap.size ≤ w2.heap.size + 1 by omega) (bw g)
  go_upto_region 3 with (first
    | (with_reducible refine alloc_row_at w2.heap.size rfl rfl rfl ?_)
    | (with_reducible refine alloc_row_at (w2.heap.size + 1) (by simp) rfl rfl ?_)
    | (with_reducible refine store_row (.tmp 10) (.tmp 18) _ _ f t0 rfl rfl rfl rfl ?_)
    | (with_reducible refine store_row (.tmp 11) (.tmp 21) _ _ g u1 rfl rfl rfl rfl ?_)
    | fail)
  clear t0 t1 u0 u1 hb1 hb2 hbb
  generalize (((w2.alloc (.cells (bw off) 161)).alloc (.cells (bw off) 161)).setRow w2.heap.size (bw f)).setRow (w2.heap.size + 1) (bw g) = W at *
  generalize w2.heap.size = G at *
  clear hs1 hs2
  go_wp2_with (first
    | (with_reducible refine load_row (.tmp 10) _ _ v0 rfl rfl rfl ?_)
    | (with_reducible refine load_row (.tmp 11) _ _ v1 rfl rfl rfl ?_)
    | fail)
  refine (rdiv_any n f g h1 h2 _).mono ?_
  rintro e w3 ⟨rfl, hb3⟩
  rw [HQ.out, HR.out]
  have x0 := ((v0.below hb3 v0.lt).alloc (.cells (bw off) 161)).alloc (.cells (bw off) 161)
  have x1 := ((v1.below hb3 v1.lt).alloc (.cells (bw off) 161)).alloc (.cells (bw off) 161)
  have l1 : G + 1 < w3.heap.size := by have := v1.lt; have := hb3.size; omega
  have hs3 : w.heap.size ≤ w3.heap.size := by have := hb3.size; have := vb.size; omega
  have t2 := (Row.new w3 off).alloc (.cells (bw off) 161)
  have t3 := Row.new_at (w3.alloc (.cells (bw off) 161)) off (g := w3.heap.size + 1) (by simp)
  have u3 := t3.row_other (k := w3.heap.size) (by omega) (bw q)
  have y0 := (x0.row_other (k := w3.heap.size) (by omega) (bw q)).row_other (k := w3.heap.size + 1) (by omega) (bw r)
  have y1 := (x1.row_other (k := w3.heap.size) (by omega) (bw q)).row_other (k := w3.heap.size + 1) (by omega) (bw r)
  have y2 := (t2.row_same q).row_other (k := w3.heap.size + 1) (by omega) (bw r)
  have y3 := u3.row_same r
  have yb := below_setRow (below_setRow ((((vb.trans (hb3.mono vb.size)).alloc (by omega) (.cells (bw off) 161)).alloc (by simp; omega) (.cells (bw off) 161))) (show w.heap.size ≤ w3.heap.size by omega) (bw q)) (show w.heap.size ≤ w3.heap.size + 1 by omega) (bw r)
  go_upto_region 4 with (first
    | (with_reducible refine alloc_row_at w3.heap.size rfl rfl rfl ?_)
    | (with_reducible refine alloc_row_at (w3.heap.size + 1) (by simp) rfl rfl ?_)
    | (with_reducible refine store_row (.tmp 12) (.tmp 27) _ _ q t2 rfl rfl rfl rfl ?_)
    | (with_reducible refine store_row (.tmp 13) (.tmp 28) _ _ r u3 rfl rfl rfl rfl ?_)
    | fail)
  clear t2 t3 u3 x0 x1 v0 v1 hb3 vb hs3
  generalize (((w3.alloc (.cells (bw off) 161)).alloc (.cells (bw off) 161)).setRow w3.heap.size (bw q)).setRow (w3.heap.size + 1) (bw r) = V at *
  generalize w3.heap.size = H at *
  clear W
  have c0 := y0.cell (j := n - 1) (by omega)
  have c1 := y1.cell (j := n - 1) (by omega)
  have hc1 : ((n : Int) - 1).toNat = n - 1 := by omega
  have hc2 : 0 ≤ (n : Int) - 1 := by omega
  have hc3 : (n : Int) - 1 < 64 := by omega
  have y0' := y0
  have y1' := y1
  go_wp2
  go_quiet (fail)
  have z0 := y0.drewN nq
  have z1 := y1.drewN nq
  have zb := below_drewN yb nq
  clear y0 y1 y2 y3 yb y0' y1'
  go_wp2_with (first
    | (with_reducible refine load_row (.tmp 10) _ _ z0 rfl rfl rfl ?_)
    | (with_reducible refine load_row (.tmp 11) _ _ z1 rfl rfl rfl ?_)
    | fail)
  refine (less_any' n f g h2 _).mono ?_
  rintro e w40 ⟨rfl, b40⟩
  rw [HL.out]
  go_wp2_with fail
  have yb' := zb.trans (b40.mono zb.size)
  clear zb b40
  refine (truth_any _ _).mono ?_
  rintro e w4 ⟨rfl, b4⟩
  go_wp2_with fail
  refine (num_any _ _).mono ?_
  rintro e w5 ⟨rfl, b5⟩
  go_wp2
  go_ret
  have hb := yb'.trans (b4.mono yb'.size)
  exact ⟨rfl, hb.trans (b5.mono hb.size)⟩
end Go.Proofs.Ytdbcpnpcnkccaaa
namespace Go.Proofs.Ytdbcpnpcnkccaaa.Wd

theorem ltv_bd (x y : Int) : 0 ≤ ltv x y ∧ ltv x y ≤ 1 := by unfold ltv; split <;> omega
theorem eqv_bd (x y : Int) : 0 ≤ eqv x y ∧ eqv x y ≤ 1 := by unfold eqv; split <;> omega
theorem bit_19 (a x y : Int) : 0 ≤ app 19 a x y ∧ app 19 a x y ≤ 1 := by rw [app19]; exact eqv_bd _ _
theorem bit_20 (a x y : Int) : 0 ≤ app 20 a x y ∧ app 20 a x y ≤ 1 := by rw [app20]; exact ltv_bd _ _
theorem bit_21 (a x y : Int) : 0 ≤ app 21 a x y ∧ app 21 a x y ≤ 1 := by rw [app21]; exact ltv_bd _ _
theorem orders_1 (a x y : Int) : app 20 a x y + app 20 a y x + app 19 a x y = 1 := by
  rw [app20, app20, app19]; exact orders_less _ _
theorem orders_2 (a x y : Int) : app 21 a x y + app 21 a y x + app 19 a x y = 1 := by
  rw [app21, app21, app19, ← eqv_sgn]; exact orders_less _ _
theorem orders_3 (a x y : Int) : (app 19 a x y == 1) = (cut a x == cut a y) := by
  rw [app19, Bool.eq_iff_iff]; unfold eqv; split <;> simp_all
theorem orders_4 (a x y : Int) : (app 21 a x y == 1) = decide (sgn a x < sgn a y) := by
  rw [app21, Bool.eq_iff_iff]; unfold ltv; split <;> simp_all
theorem top_is' (a : Int) : msk a - msk a / 2 = hib a := top_is a

/-! ### doubling and halving -/
def upTo (a c : Int) (k : Nat) : Int := cut a (c * pw k)
theorem up_zero (a x : Int) : cut a x = upTo a (cut a x) 0 := by unfold upTo pw; rw [Int.pow_zero, Int.mul_one, cut_cut]
theorem up_succ (a c : Int) (k : Nat) : app 8 a (upTo a c k) (upTo a c k) = upTo a c (k + 1) := by
  rw [app8]; unfold upTo; rw [cut_add_l, cut_add_r, pw_succ]; congr 1; rw [← Int.two_mul, ← Int.mul_assoc, ← Int.mul_assoc, Int.mul_comm 2 c]
theorem half_succ (c : Int) (k : Nat) : c / pw k / 2 = c / pw (k + 1) := by
  rw [Int.ediv_ediv_of_nonneg (Int.le_of_lt (pw_pos k)), pw_succ, Int.mul_comm]
theorem div_zero (c : Int) : c = c / pw 0 := by unfold pw; rw [Int.pow_zero, Int.ediv_one]
theorem app16 (a x y : Int) : app 16 a x y = cut a (cut a x * pw (sh (cut a y))) := by simp [app]
theorem app17 (a x y : Int) : app 17 a x y = cut a x / pw (sh (cut a y)) := by simp [app]
theorem app18 (a x y : Int) : app 18 a x y = cut a (sgn a x / pw (sh (cut a y))) := by simp [app]
theorem div_pw_bd (s h : Int) (k : Nat) (h0 : -h ≤ s) (h1 : s < h) : -h ≤ s / pw k ∧ s / pw k < h := by
  have hp := pw_pos k
  by_cases hs : 0 ≤ s
  · have := div_pw_lo s k hs; have := div_pw_le s k hs; omega
  · constructor
    · rw [Int.le_ediv_iff_mul_le hp]
      have : 0 ≤ h * (pw k - 1) := Int.mul_nonneg (by omega) (by omega)
      rw [Int.mul_sub, Int.mul_one] at this
      rw [Int.neg_mul]; omega
    · rw [Int.ediv_lt_iff_lt_mul hp]
      have : 0 ≤ h * (pw k - 1) := Int.mul_nonneg (by omega) (by omega)
      rw [Int.mul_sub, Int.mul_one] at this
      omega
theorem sgn_of (a s : Int) (h0 : - hib a ≤ s) (h1 : s < hib a) : sgn a (cut a s) = s := by
  rw [sgn_cut]
  unfold sgn
  have hp := pw_hib a
  by_cases hs : 0 ≤ s
  · rw [cut_of_lt hs (by omega), if_pos h1]
  · have : cut a s = s + pw (wid a) := by
      unfold cut
      rw [show s = (s + pw (wid a)) + pw (wid a) * (-1) from by omega, Int.add_mul_emod_self_left, Int.emod_eq_of_lt (by omega) (by omega)]
      omega
    rw [this, if_neg (by omega)]; omega
theorem shifts (a x n : Int) (y : Nat) (hy : cut a n = y) (h64 : y < 64) : app 16 a x n = upTo a (cut a x) y ∧ app 17 a x n = cut a x / pw y ∧ sgn a (app 18 a x n) = sgn a x / pw y := by
  have e : sh (y : Int) = y := by unfold sh; omega
  rw [app16, app17, app18, hy, e]
  refine ⟨rfl, rfl, ?_⟩
  have := div_pw_bd (sgn a x) (hib a) y (sgn_lo a x) (sgn_lt a x)
  exact sgn_of a _ this.1 this.2
end Go.Proofs.Ytdbcpnpcnkccaaa.Wd
namespace Go.Proofs.Ytdbcpnpcnkccaaa
set_option maxRecDepth 100000
namespace Wb

theorem val_bit (f : Nat → Bool) : ∀ k i, (val f k).testBit i = (decide (i < k) && f i)
  | 0, i => by simp [val]
  | k + 1, i => by
    have hl := val_lt f k
    have ih := val_bit f k i
    rw [val]
    by_cases h : f k = true
    · rw [if_pos h, Nat.add_comm]
      rcases Nat.lt_trichotomy i k with hi | hi | hi
      · rw [Nat.testBit_two_pow_add_gt hi, ih]; simp [hi]; omega
      · subst hi; rw [Nat.testBit_two_pow_add_eq, ih]; simp [h]
      · have : 2 ^ k + val f k < 2 ^ i := by
          have : 2 ^ (k + 1) ≤ 2 ^ i := Nat.pow_le_pow_right (by decide) (by omega)
          rw [Nat.pow_succ] at this; omega
        rw [Nat.testBit_lt_two_pow this, show decide (i < k + 1) = false from by simp; omega]; rfl
    · rw [if_neg h, Nat.add_zero, ih]
      by_cases e : i = k
      · subst e; simp at h; simp [h]
      · congr 1; simp; omega
theorem val_half (f : Nat → Bool) (n k : Nat) (h : k < n) : val f n / 2 ^ k = 2 * (val f n / 2 ^ (k + 1)) + (if f k then 1 else 0) := by
  have hb := val_bit f n k
  rw [Nat.testBit_eq_decide_div_mod_eq] at hb
  have e : val f n / 2 ^ (k + 1) = val f n / 2 ^ k / 2 := by rw [Nat.div_div_eq_div_mul, Nat.pow_succ]
  rw [e]
  generalize val f n / 2 ^ k = t at *
  have hk : decide (k < n) = true := by simpa using h
  rw [hk, Bool.true_and] at hb
  split
  · rename_i hf; rw [hf] at hb; have := of_decide_eq_true hb; omega
  · rename_i hf
    have hf' : f k = false := by simpa using hf
    rw [hf'] at hb; have := of_decide_eq_false hb; omega
theorem top_bit (f : Nat → Bool) (n : Nat) (h1 : 1 ≤ n) : f (n - 1) = decide (2 ^ (n - 1) ≤ val f n) := by
  obtain ⟨m, rfl⟩ : ∃ m, n = m + 1 := ⟨n - 1, by omega⟩
  have := val_lt f m
  rw [Nat.add_sub_cancel, val]
  cases f m <;> simp <;> omega
theorem val_truth (b : Bool) : val (upd off 0 b) 64 = if b then 1 else 0 := by
  have h : Sup 1 (upd off 0 b) := fun i hi => by unfold upd; rw [if_neg (by omega)]; rfl
  have := val_sup h 63
  rw [this]
  cases b <;> rfl
theorem val_upd {f : Nat → Bool} {i : Nat} (hf : f i = false) : ∀ n, i < n → val (upd f i true) n = val f n + 2 ^ i
  | 0, h => by omega
  | n + 1, h => by
    rw [val, val]
    by_cases e : i = n
    · subst e
      have : val (upd f i true) i = val f i := val_congr i (fun j hj => by unfold upd; rw [if_neg (by omega)])
      rw [this, hf]; simp [upd]
    · rw [val_upd hf n (by omega), show upd f i true n = f n from by unfold upd; rw [if_neg (fun q => e q.symm)]]; omega

/-! ### Mul, moved -/
theorem val_mulX (n : Nat) (f : Nat → Bool) (h1 : 1 ≤ n) : ∀ k, val (mulX n f k) n = (val f n * 2 ^ k) % 2 ^ n
  | 0 => by rw [mulX, Nat.pow_zero, Nat.mul_one, Nat.mod_eq_of_lt (val_lt f n)]
  | k + 1 => by
    rw [mulX, val_upB n _ _ h1, val_mulX n f h1 k]
    simp only [Bool.false_eq_true, if_false, Nat.add_zero]
    rw [Nat.mul_mod, Nat.mod_mod, ← Nat.mul_mod, Nat.pow_succ]
    congr 1
    rw [Nat.mul_comm 2, Nat.mul_assoc]
theorem val_mulO (n : Nat) (f g : Nat → Bool) (h1 : 1 ≤ n) : ∀ k, val (mulO n f g k) n = (val f n * val g k) % 2 ^ n
  | 0 => by rw [mulO, val_off, val, Nat.mul_zero, Nat.zero_mod]
  | k + 1 => by
    rw [mulO, val]
    split
    · rw [val_addB, val_mulO n f g h1 k, val_mulX n f h1 k]
      simp only [Bool.false_eq_true, if_false, Nat.add_zero]
      rw [Nat.mul_add, ← Nat.add_mod]
    · rw [val_mulO n f g h1 k, Nat.add_zero]
theorem mulO_sup (n : Nat) (f g : Nat → Bool) : ∀ k, Sup n (mulO n f g k)
  | 0 => fun _ _ => rfl
  | k + 1 => by
    rw [mulO]; split
    · exact addB_sup _ _ _ _
    · exact mulO_sup n f g k
theorem val_movU (n : Nat) (f : Nat → Bool) (h1 : 1 ≤ n) : ∀ k, val (movU n f k) n = (val f n * 2 ^ k) % 2 ^ n
  | 0 => by rw [movU, Nat.pow_zero, Nat.mul_one, Nat.mod_eq_of_lt (val_lt f n)]
  | k + 1 => by
    rw [movU, val_upB n _ _ h1, val_movU n f h1 k]
    simp only [Bool.false_eq_true, if_false, Nat.add_zero]
    rw [Nat.mul_mod, Nat.mod_mod, ← Nat.mul_mod, Nat.pow_succ]
    congr 1
    rw [Nat.mul_comm 2, Nat.mul_assoc]
theorem movU_sup (n : Nat) (f : Nat → Bool) (h1 : 1 ≤ n) (hf : Sup n f) : ∀ k, Sup n (movU n f k)
  | 0 => hf
  | _ + 1 => upB_sup _ _ _ h1
theorem movD_sup (n : Nat) (f : Nat → Bool) (b : Bool) (hf : Sup n f) : ∀ k, Sup n (movD n f b k)
  | 0 => hf
  | _ + 1 => downB_sup _ _ _
theorem val_movD (n : Nat) (f : Nat → Bool) (b : Bool) (h1 : 1 ≤ n) : ∀ k, ((val (movD n f b k) n : Nat) : Int) = ((val f n : Nat) - (if b then ((2 ^ n : Nat) : Int) else 0)) / ((2 ^ k : Nat) : Int) + (if b then ((2 ^ n : Nat) : Int) else 0)
  | 0 => by rw [movD, Nat.pow_zero, Int.natCast_one, Int.ediv_one]; omega
  | k + 1 => by
    have ih := val_movD n f b h1 k
    rw [movD, val_downB n _ _ h1]
    generalize ((val f n : Nat) - (if b then ((2 ^ n : Nat) : Int) else 0) : Int) = s at *
    have e : s / ((2 ^ (k + 1) : Nat) : Int) = s / ((2 ^ k : Nat) : Int) / 2 := by
      rw [Int.ediv_ediv_of_nonneg (Int.natCast_nonneg _), Nat.pow_succ, Int.natCast_mul]; rfl
    rw [e]
    generalize s / ((2 ^ k : Nat) : Int) = t at *
    have hp : 2 ^ n = 2 ^ (n - 1) * 2 := by rw [← Nat.pow_succ]; congr 1; omega
    rw [hp] at ih ⊢
    generalize 2 ^ (n - 1) = p at *
    generalize val (movD n f b k) n = v at *
    cases b
    · simp only [Bool.false_eq_true, if_false] at ih ⊢; omega
    · simp only [if_true] at ih ⊢; omega

/-! ### Div -/
structure DvOk (n : Nat) (f g : Nat → Bool) (m : Nat) (q r : Nat → Bool) : Prop where
  rest : val r n = (val f n / 2 ^ (n - m)) % val g n
  quot : val q n = (val f n / 2 ^ (n - m)) / val g n * 2 ^ (n - m)
  low : ∀ i, i < n - m → q i = false
  supq : Sup n q
  supr : Sup n r
theorem dv_ok (n : Nat) (f g : Nat → Bool) (h1 : 1 ≤ n) (hy : 0 < val g n) : ∀ m, m ≤ n → DvOk n f g m (dv n f g m).1 (dv n f g m).2
  | 0, _ => by
    have e : val f n / 2 ^ n = 0 := Nat.div_eq_of_lt (val_lt f n)
    refine ⟨?_, ?_, fun _ _ => rfl, fun _ _ => rfl, fun _ _ => rfl⟩
    · rw [Nat.sub_zero, e, Nat.zero_mod]; exact val_off n
    · rw [Nat.sub_zero, e, Nat.zero_div, Nat.zero_mul]; exact val_off n
  | m + 1, hm => by
    have ih := dv_ok n f g h1 hy m (by omega)
    have hs := dv.eq_2 n f g m
    obtain ⟨e1, e2, e3, e4, e5⟩ := ih
    generalize (dv n f g m).1 = q at *
    generalize (dv n f g m).2 = r at *
    have hT := val_half f n (n - 1 - m) (by omega)
    rw [show n - 1 - m + 1 = n - m from by omega] at hT
    have hnm : n - (m + 1) = n - 1 - m := by omega
    have fin : ∀ q' r', val r' n = (val f n / 2 ^ (n - 1 - m)) % val g n → val q' n = (val f n / 2 ^ (n - 1 - m)) / val g n * 2 ^ (n - 1 - m) → (∀ i, i < n - 1 - m → q' i = false) → Sup n q' → Sup n r' → DvOk n f g (m + 1) q' r' :=
      fun q' r' a b c d e => ⟨by rw [hnm]; exact a, by rw [hnm]; exact b, by rw [hnm]; exact c, d, e⟩
    have hpow : 2 ^ (n - m) = 2 ^ (n - 1 - m) * 2 := by rw [← Nat.pow_succ]; congr 1; omega
    have hYlt := val_lt g n
    have hR : val r n < val g n := by rw [e1]; exact Nat.mod_lt _ hy
    have hov := top_bit r n h1
    have hup := val_upB n r (f (n - 1 - m)) h1
    have hpn : 2 ^ n = 2 ^ (n - 1) * 2 := by rw [← Nat.pow_succ]; congr 1; omega
    have hnot := val_notB n g
    have hadd := val_addB n (upB n r (f (n - 1 - m))) (notB n g) true
    have hqi := e3 (n - 1 - m) (by omega)
    have hupd := val_upd hqi n (by omega)
    have hb : (if f (n - 1 - m) = true then 1 else 0) ≤ 1 := by split <;> omega
    have hdm := Nat.div_add_mod (val f n / 2 ^ (n - m)) (val g n)
    rw [← e1] at hdm
    generalize (if f (n - 1 - m) = true then 1 else 0) = b at *
    generalize hTT : val f n / 2 ^ (n - m) = T at *
    generalize val f n / 2 ^ (n - 1 - m) = T' at *
    generalize val g n = Y at *
    generalize val r n = R at *
    have key : ((r (n - 1) || !decide (val (upB n r (f (n - 1 - m))) n < Y)) = true ↔ Y ≤ 2 * R + b) ∧ (Y ≤ 2 * R + b → val (addB n (upB n r (f (n - 1 - m))) (notB n g) true) n = 2 * R + b - Y) ∧ (¬ Y ≤ 2 * R + b → val (upB n r (f (n - 1 - m))) n = 2 * R + b) := by
      rw [hadd, hnot, hup, hov]
      simp only [if_true]
      by_cases ho : 2 ^ (n - 1) ≤ R
      · have e6 : (2 * R + b) % 2 ^ n = 2 * R + b - 2 ^ n := by
          rw [Nat.mod_eq_sub_mod (by omega), Nat.mod_eq_of_lt (by omega)]
        rw [e6]
        refine ⟨by simp [ho]; omega, fun _ => ?_, fun h => by omega⟩
        rw [show 2 * R + b - 2 ^ n + (2 ^ n - 1 - Y) + 1 = 2 * R + b - Y from by omega, Nat.mod_eq_of_lt (by omega)]
      · have e6 : (2 * R + b) % 2 ^ n = 2 * R + b := Nat.mod_eq_of_lt (by omega)
        rw [e6]
        refine ⟨by simp [ho], fun h => ?_, fun _ => rfl⟩
        rw [show 2 * R + b + (2 ^ n - 1 - Y) + 1 = (2 * R + b - Y) + 2 ^ n from by omega, Nat.add_mod_right, Nat.mod_eq_of_lt (by omega)]
    obtain ⟨k1, k2, k3⟩ := key
    have hT2 : T' = Y * (2 * (T / Y)) + (2 * R + b) := by
      rw [hT, ← Nat.mul_assoc, Nat.mul_comm Y 2, Nat.mul_assoc]; omega
    rw [hs]
    by_cases hc : Y ≤ 2 * R + b
    · rw [if_pos (k1.2 hc)]
      have hT3 : T' = (2 * R + b - Y) + Y * (2 * (T / Y) + 1) := by rw [hT2, Nat.mul_add, Nat.mul_one]; omega
      have d1 : T' / Y = 2 * (T / Y) + 1 := by
        rw [hT3, Nat.add_mul_div_left _ _ hy, Nat.div_eq_of_lt (by omega), Nat.zero_add]
      have d2 : T' % Y = 2 * R + b - Y := by
        rw [hT3, Nat.add_mul_mod_self_left, Nat.mod_eq_of_lt (by omega)]
      refine fin _ _ ?_ ?_ ?_ ?_ (addB_sup _ _ _ _)
      · show val (addB n (upB n r (f (n - 1 - m))) (notB n g) true) n = _
        rw [k2 hc, d2]
      · show val (upd q (n - 1 - m) true) n = _
        rw [hupd, e2, d1, hpow, Nat.add_mul, Nat.one_mul, Nat.mul_comm 2, Nat.mul_assoc, Nat.mul_comm 2 (2 ^ (n - 1 - m))]
      · intro i hi
        show upd q (n - 1 - m) true i = false
        unfold upd; rw [if_neg (by omega)]; exact e3 i (by omega)
      · intro i hi
        show upd q (n - 1 - m) true i = false
        unfold upd; rw [if_neg (by omega)]; exact e4 i hi
    · rw [if_neg (fun h => hc (k1.1 h))]
      have hT3 : T' = (2 * R + b) + Y * (2 * (T / Y)) := by rw [hT2]; omega
      have d1 : T' / Y = 2 * (T / Y) := by
        rw [hT3, Nat.add_mul_div_left _ _ hy, Nat.div_eq_of_lt (by omega), Nat.zero_add]
      have d2 : T' % Y = 2 * R + b := by
        rw [hT3, Nat.add_mul_mod_self_left, Nat.mod_eq_of_lt (by omega)]
      refine fin _ _ ?_ ?_ ?_ e4 (upB_sup _ _ _ h1)
      · show val (upB n r (f (n - 1 - m))) n = _
        rw [k3 hc, d2]
      · show val q n = _
        rw [e2, d1, hpow, Nat.mul_comm 2, Nat.mul_assoc, Nat.mul_comm 2 (2 ^ (n - 1 - m))]
      · intro i hi
        exact e3 i (by omega)
end Wb
end Go.Proofs.Ytdbcpnpcnkccaaa
namespace Go.Proofs.Ytdbcpnpcnkccaaa
set_option maxRecDepth 100000
namespace Wb
variable (a : Int) (x y : Nat)

theorem vX : val (ofB (Wd.wid a) x) (Wd.wid a) = x % 2 ^ Wd.wid a := val_ofB _ _
theorem vX64 : val (ofB (Wd.wid a) x) 64 = x % 2 ^ Wd.wid a := by rw [val_sup64 (ofB_sup _ _) (Wd.wid_hi a), vX]
theorem cX : Wd.cut a (x : Int) = ((x % 2 ^ Wd.wid a : Nat) : Int) := Wd.cut_nat a x
theorem lX : x % 2 ^ Wd.wid a < 2 ^ Wd.wid a := Nat.mod_lt _ (Nat.two_pow_pos _)
theorem mN : Wd.msk a = ((2 ^ Wd.wid a - 1 : Nat) : Int) := by
  unfold Wd.msk; rw [Wd.pw_nat]; have := Nat.two_pow_pos (Wd.wid a); omega

theorem j_mask : ((val (notB (Wd.wid a) off) 64 : Nat) : Int) = Wd.msk a := by
  rw [val_sup64 (notB_sup _ _) (Wd.wid_hi a), val_notB, val_off, mN, Nat.sub_zero]
theorem j_cut : ((val (ofB (Wd.wid a) x) 64 : Nat) : Int) = Wd.cut a x := by rw [vX64, cX]
theorem j_not : ((val (notB (Wd.wid a) (ofB (Wd.wid a) x)) 64 : Nat) : Int) = Wd.app 5 a x y := by
  rw [val_sup64 (notB_sup _ _) (Wd.wid_hi a), val_notB, vX, Wd.app5, mN, cX]
  have := lX a x; omega
theorem j_add : ((val (addB (Wd.wid a) (ofB (Wd.wid a) x) (ofB (Wd.wid a) y) false) 64 : Nat) : Int) = Wd.app 8 a x y := by
  rw [val_sup64 (addB_sup _ _ _ _) (Wd.wid_hi a), val_addB, vX, vX, Wd.app8]
  simp only [Bool.false_eq_true, if_false, Nat.add_zero]
  rw [← Nat.add_mod, show (x : Int) + (y : Int) = ((x + y : Nat) : Int) from by omega, Wd.cut_nat]
theorem j_sub : ((val (addB (Wd.wid a) (ofB (Wd.wid a) x) (notB (Wd.wid a) (ofB (Wd.wid a) y)) true) 64 : Nat) : Int) = Wd.app 9 a x y := by
  rw [val_sup64 (addB_sup _ _ _ _) (Wd.wid_hi a), val_addB, val_notB, vX, vX, Wd.app9, ← Wd.cut_sub_l, ← Wd.cut_sub_r, cX, cX]
  simp only [if_true]
  have h1 := lX a x
  have h2 := lX a y
  generalize x % 2 ^ Wd.wid a = X at *
  generalize y % 2 ^ Wd.wid a = Y at *
  rw [show X + (2 ^ Wd.wid a - 1 - Y) + 1 = X + 2 ^ Wd.wid a - Y from by omega]
  have e : ((X : Int) - Y) = ((X + 2 ^ Wd.wid a - Y : Nat) : Int) + Wd.pw (Wd.wid a) * (-1) := by rw [Wd.pw_nat]; omega
  rw [e]
  unfold Wd.cut
  rw [Int.add_mul_emod_self_left, Wd.pw_nat]
  exact Int.natCast_emod _ _
theorem j_mul : ((val (mulO (Wd.wid a) (ofB (Wd.wid a) x) (ofB (Wd.wid a) y) (Wd.wid a)) 64 : Nat) : Int) = Wd.app 10 a x y := by
  rw [val_sup64 (mulO_sup _ _ _ _) (Wd.wid_hi a), val_mulO _ _ _ (Wd.wid_lo a), vX, vX, Wd.app10, ← Nat.mul_mod, ← Int.natCast_mul, Wd.cut_nat]
theorem qr_zero (h : y % 2 ^ Wd.wid a = 0) : qr (Wd.wid a) (ofB (Wd.wid a) x) (ofB (Wd.wid a) y) = (notB (Wd.wid a) off, ofB (Wd.wid a) x) := if_pos (by rw [vX64]; exact h)
theorem qr_pos (h : ¬ y % 2 ^ Wd.wid a = 0) : qr (Wd.wid a) (ofB (Wd.wid a) x) (ofB (Wd.wid a) y) = dv (Wd.wid a) (ofB (Wd.wid a) x) (ofB (Wd.wid a) y) (Wd.wid a) := if_neg (by rw [vX64]; exact h)
theorem j_div : ((val (qr (Wd.wid a) (ofB (Wd.wid a) x) (ofB (Wd.wid a) y)).1 64 : Nat) : Int) = Wd.app 11 a x y := by
  rw [Wd.app11, cX, cX]
  by_cases h : y % 2 ^ Wd.wid a = 0
  · rw [qr_zero a x y h, if_pos (by omega)]; exact j_mask a
  · rw [qr_pos a x y h, if_neg (by omega)]
    have hd := dv_ok (Wd.wid a) (ofB (Wd.wid a) x) (ofB (Wd.wid a) y) (Wd.wid_lo a) (by rw [vX]; omega) (Wd.wid a) (Nat.le_refl _)
    rw [val_sup64 hd.supq (Wd.wid_hi a), hd.quot, Nat.sub_self, Nat.pow_zero, Nat.mul_one, Nat.div_one, vX, vX]
    exact Int.natCast_ediv _ _
theorem j_rem : ((val (qr (Wd.wid a) (ofB (Wd.wid a) x) (ofB (Wd.wid a) y)).2 64 : Nat) : Int) = Wd.app 12 a x y := by
  rw [Wd.app12, cX, cX]
  by_cases h : y % 2 ^ Wd.wid a = 0
  · rw [qr_zero a x y h, if_pos (by omega), vX64]
  · rw [qr_pos a x y h, if_neg (by omega)]
    have hd := dv_ok (Wd.wid a) (ofB (Wd.wid a) x) (ofB (Wd.wid a) y) (Wd.wid_lo a) (by rw [vX]; omega) (Wd.wid a) (Nat.le_refl _)
    rw [val_sup64 hd.supr (Wd.wid_hi a), hd.rest, Nat.sub_self, Nat.pow_zero, Nat.div_one, vX, vX]
    exact Int.natCast_emod _ _
theorem val_bits (n : Nat) (o : Bool → Bool → Bool) (f g : Nat → Bool) (z : Nat) (h : ∀ i, z.testBit i = (decide (i < n) && o (f i) (g i))) : val (bitB n o f g) n = z := by
  apply Nat.eq_of_testBit_eq
  intro i
  rw [val_bit, h]
  by_cases e : i < n <;> simp [bitB, e]
theorem j_and : ((val (bitB (Wd.wid a) and (ofB (Wd.wid a) x) (ofB (Wd.wid a) y)) 64 : Nat) : Int) = Wd.app 13 a x y := by
  rw [val_sup64 (bitB_sup _ _ _ _) (Wd.wid_hi a)]
  show _ = (((Wd.cut a x).toNat &&& (Wd.cut a y).toNat : Nat) : Int)
  rw [cX, cX, Int.toNat_natCast, Int.toNat_natCast, ← vX, ← vX]
  congr 1
  refine val_bits _ _ _ _ _ (fun i => ?_)
  rw [Nat.testBit_and, val_bit, val_bit]
  by_cases e : i < Wd.wid a <;> simp [e]
theorem j_or : ((val (bitB (Wd.wid a) or (ofB (Wd.wid a) x) (ofB (Wd.wid a) y)) 64 : Nat) : Int) = Wd.app 14 a x y := by
  rw [val_sup64 (bitB_sup _ _ _ _) (Wd.wid_hi a)]
  show _ = (((Wd.cut a x).toNat ||| (Wd.cut a y).toNat : Nat) : Int)
  rw [cX, cX, Int.toNat_natCast, Int.toNat_natCast, ← vX, ← vX]
  congr 1
  refine val_bits _ _ _ _ _ (fun i => ?_)
  rw [Nat.testBit_or, val_bit, val_bit]
  by_cases e : i < Wd.wid a <;> simp [e]
theorem j_xor : ((val (bitB (Wd.wid a) bne (ofB (Wd.wid a) x) (ofB (Wd.wid a) y)) 64 : Nat) : Int) = Wd.app 15 a x y := by
  rw [val_sup64 (bitB_sup _ _ _ _) (Wd.wid_hi a)]
  show _ = (((Wd.cut a x).toNat ^^^ (Wd.cut a y).toNat : Nat) : Int)
  rw [cX, cX, Int.toNat_natCast, Int.toNat_natCast, ← vX, ← vX]
  congr 1
  refine val_bits _ _ _ _ _ (fun i => ?_)
  rw [Nat.testBit_xor, val_bit, val_bit]
  by_cases e : i < Wd.wid a <;> simp [e]
theorem shY : Wd.sh (Wd.cut a y) = min (y % 2 ^ Wd.wid a) 64 := by rw [cX]; unfold Wd.sh; rw [Int.toNat_natCast]
theorem j_shl : ((val (movU (Wd.wid a) (ofB (Wd.wid a) x) (min (Wd.wid a) (val (ofB (Wd.wid a) y) 64))) 64 : Nat) : Int) = Wd.app 16 a x y := by
  rw [val_sup64 (movU_sup _ _ (Wd.wid_lo a) (ofB_sup _ _) _) (Wd.wid_hi a), val_movU _ _ (Wd.wid_lo a), vX, vX64, Wd.app16, shY, cX, Wd.pw_nat, ← Int.natCast_mul, Wd.cut_nat]
  congr 1
  have hw := Wd.wid_hi a
  by_cases h : y % 2 ^ Wd.wid a ≤ Wd.wid a
  · rw [Nat.min_eq_right h, Nat.min_eq_left (by omega)]
  · rw [Nat.min_eq_left (by omega), Nat.mul_mod_left]
    have e : min (y % 2 ^ Wd.wid a) 64 = Wd.wid a + (min (y % 2 ^ Wd.wid a) 64 - Wd.wid a) := by omega
    rw [e, Nat.pow_add, ← Nat.mul_assoc, Nat.mul_comm (x % 2 ^ Wd.wid a), Nat.mul_assoc, Nat.mul_mod_right]
theorem j_shr : ((val (movD (Wd.wid a) (ofB (Wd.wid a) x) false (min (Wd.wid a) (val (ofB (Wd.wid a) y) 64))) 64 : Nat) : Int) = Wd.app 17 a x y := by
  rw [val_sup64 (movD_sup _ _ _ (ofB_sup _ _) _) (Wd.wid_hi a), val_movD _ _ _ (Wd.wid_lo a), vX, vX64, Wd.app17, shY, cX, Wd.pw_nat]
  simp only [Bool.false_eq_true, if_false, Int.sub_zero, Int.add_zero]
  have hw := Wd.wid_hi a
  have hx := lX a x
  by_cases h : y % 2 ^ Wd.wid a ≤ Wd.wid a
  · rw [Nat.min_eq_right h, Nat.min_eq_left (by omega)]
  · rw [Nat.min_eq_left (by omega)]
    have h2 : 2 ^ Wd.wid a ≤ 2 ^ min (y % 2 ^ Wd.wid a) 64 := Nat.pow_le_pow_right (by decide) (by omega)
    rw [Int.ediv_eq_zero_of_lt (by omega) (by omega), Int.ediv_eq_zero_of_lt (by omega) (by omega)]
theorem topX : ofB (Wd.wid a) x (Wd.wid a - 1) = decide (Wd.hib a ≤ Wd.cut a x) := by
  rw [top_bit (ofB (Wd.wid a) x) (Wd.wid a) (Wd.wid_lo a), vX, cX]
  have e : Wd.hib a = ((2 ^ (Wd.wid a - 1) : Nat) : Int) := by unfold Wd.hib; rw [Wd.pw_nat]
  rw [e]
  congr 1; rw [eq_iff_iff]; omega
theorem sgnX : Wd.sgn a x = ((x % 2 ^ Wd.wid a : Nat) : Int) - (if ofB (Wd.wid a) x (Wd.wid a - 1) then ((2 ^ Wd.wid a : Nat) : Int) else 0) := by
  rw [topX]
  unfold Wd.sgn
  rw [Wd.pw_nat, ← cX]
  by_cases h : Wd.cut a x < Wd.hib a
  · rw [if_pos h, if_neg (by simp; omega)]; omega
  · rw [if_neg h, if_pos (by simp; omega)]
theorem j_sign : sg (Wd.wid a) (ofB (Wd.wid a) x) (Wd.wid a) = Wd.sgn a x := by
  have h := sg_val (Wd.wid a) (ofB (Wd.wid a) x) (Wd.wid a) (Nat.le_refl _)
  rw [Nat.sub_self, Nat.pow_zero, val, vX] at h
  rw [sgnX, ← h]; omega
theorem j_sar : ((val (movD (Wd.wid a) (ofB (Wd.wid a) x) (ofB (Wd.wid a) x (Wd.wid a - 1)) (min (Wd.wid a) (val (ofB (Wd.wid a) y) 64))) 64 : Nat) : Int) = Wd.app 18 a x y := by
  rw [val_sup64 (movD_sup _ _ _ (ofB_sup _ _) _) (Wd.wid_hi a), Wd.app18, shY, vX64]
  have hv := val_movD (Wd.wid a) (ofB (Wd.wid a) x) (ofB (Wd.wid a) x (Wd.wid a - 1)) (Wd.wid_lo a) (min (Wd.wid a) (y % 2 ^ Wd.wid a))
  rw [vX, ← sgnX] at hv
  have hlt := val_lt (movD (Wd.wid a) (ofB (Wd.wid a) x) (ofB (Wd.wid a) x (Wd.wid a - 1)) (min (Wd.wid a) (y % 2 ^ Wd.wid a))) (Wd.wid a)
  have s0 := Wd.sgn_lo a x
  have s1 := Wd.sgn_lt a x
  have hp := Wd.pw_hib a
  have hw := Wd.wid_hi a
  have hdiv : Wd.sgn a x / ((2 ^ min (Wd.wid a) (y % 2 ^ Wd.wid a) : Nat) : Int) = Wd.sgn a x / Wd.pw (min (y % 2 ^ Wd.wid a) 64) := by
    rw [Wd.pw_nat]
    by_cases h : y % 2 ^ Wd.wid a ≤ Wd.wid a
    · rw [Nat.min_eq_right h, Nat.min_eq_left (by omega)]
    · rw [Nat.min_eq_left (by omega)]
      have far : ∀ d : Nat, 2 ^ Wd.wid a ≤ d → Wd.sgn a x / (d : Int) = if Wd.sgn a x < 0 then -1 else 0 := by
        intro d hd
        rw [Wd.pw_nat] at hp
        split
        · rw [show Wd.sgn a x = (Wd.sgn a x + d) + (-1) * (d : Int) from by omega, Int.add_mul_ediv_right _ _ (by omega), Int.ediv_eq_zero_of_lt (by omega) (by omega)]; rfl
        · exact Int.ediv_eq_zero_of_lt (by omega) (by omega)
      rw [far _ (Nat.le_refl _), far _ (Nat.pow_le_pow_right (by decide) (by omega))]
  rw [← hdiv]
  clear hdiv
  generalize Wd.sgn a x / ((2 ^ min (Wd.wid a) (y % 2 ^ Wd.wid a) : Nat) : Int) = t at *
  generalize val (movD (Wd.wid a) (ofB (Wd.wid a) x) (ofB (Wd.wid a) x (Wd.wid a - 1)) (min (Wd.wid a) (y % 2 ^ Wd.wid a))) (Wd.wid a) = v at *
  unfold Wd.cut
  rw [Wd.pw_nat]
  by_cases hb : ofB (Wd.wid a) x (Wd.wid a - 1) = true
  · rw [if_pos hb] at hv
    rw [show t = (v : Int) + ((2 ^ Wd.wid a : Nat) : Int) * (-1) from by omega, Int.add_mul_emod_self_left, Int.emod_eq_of_lt (by omega) (by omega)]
  · rw [if_neg hb] at hv
    rw [show t = (v : Int) from by omega, Int.emod_eq_of_lt (by omega) (by omega)]
theorem j_eq (b : Bool) (h : ((List.range 64).all fun i => ofB (Wd.wid a) x i == ofB (Wd.wid a) y i) = b) : ((val (upd off 0 b) 64 : Nat) : Int) = Wd.app 19 a x y := by
  rw [val_truth, Wd.app19, cX, cX, ← vX64, ← vX64]
  have key : b = true ↔ val (ofB (Wd.wid a) x) 64 = val (ofB (Wd.wid a) y) 64 := by
    rw [← h]
    simp only [List.all_eq_true, List.mem_range, beq_iff_eq]
    exact ⟨fun q => val_congr 64 q, fun q => val_inj 64 q⟩
  unfold Wd.eqv
  by_cases e : val (ofB (Wd.wid a) x) 64 = val (ofB (Wd.wid a) y) 64
  · rw [if_pos (key.2 e), if_pos (by omega)]; rfl
  · rw [if_neg (fun q => e (key.1 q)), if_neg (by omega)]; rfl
theorem j_less (b : Bool) (h : decide (val (ofB (Wd.wid a) x) (Wd.wid a) < val (ofB (Wd.wid a) y) (Wd.wid a)) = b) : ((val (upd off 0 b) 64 : Nat) : Int) = Wd.app 20 a x y := by
  rw [val_truth, Wd.app20, cX, cX, ← h, vX, vX]
  unfold Wd.ltv
  by_cases e : x % 2 ^ Wd.wid a < y % 2 ^ Wd.wid a
  · rw [if_pos (by simpa using e), if_pos (by omega)]; rfl
  · rw [if_neg (by simpa using e), if_neg (by omega)]; rfl
theorem j_below1 (h : (ofB (Wd.wid a) x (Wd.wid a - 1) == ofB (Wd.wid a) y (Wd.wid a - 1)) = false) : ((val (upd off 0 (ofB (Wd.wid a) x (Wd.wid a - 1))) 64 : Nat) : Int) = Wd.app 21 a x y := by
  rw [val_truth, Wd.app21]
  have h' : ofB (Wd.wid a) x (Wd.wid a - 1) ≠ ofB (Wd.wid a) y (Wd.wid a - 1) := by simpa using h
  rw [topX, topX] at h'
  rw [topX]
  have hp := Wd.pw_hib a
  have x0 := Wd.cut_lo a x
  have x1 := Wd.cut_lt a x
  have y0 := Wd.cut_lo a y
  have y1 := Wd.cut_lt a y
  unfold Wd.ltv
  by_cases e : Wd.hib a ≤ Wd.cut a x
  · have e2 : ¬ Wd.hib a ≤ Wd.cut a y := fun q => h' (by simp [e, q])
    have ex : Wd.sgn a x = Wd.cut a x - Wd.pw (Wd.wid a) := by unfold Wd.sgn; rw [if_neg (by omega)]
    have ey : Wd.sgn a y = Wd.cut a y := by unfold Wd.sgn; rw [if_pos (by omega)]
    rw [ex, ey, if_pos (by simpa using e), if_pos (by omega)]; rfl
  · have e2 : Wd.hib a ≤ Wd.cut a y := by
      apply Classical.byContradiction
      intro q; exact h' (by simp [e, q])
    have ex : Wd.sgn a x = Wd.cut a x := by unfold Wd.sgn; rw [if_pos (by omega)]
    have ey : Wd.sgn a y = Wd.cut a y - Wd.pw (Wd.wid a) := by unfold Wd.sgn; rw [if_neg (by omega)]
    rw [ex, ey, if_neg (by simpa using e), if_neg (by omega)]; rfl
theorem j_below2 (b : Bool) (hb : decide (val (ofB (Wd.wid a) x) (Wd.wid a) < val (ofB (Wd.wid a) y) (Wd.wid a)) = b) (h : (ofB (Wd.wid a) x (Wd.wid a - 1) == ofB (Wd.wid a) y (Wd.wid a - 1)) = true) : ((val (upd off 0 b) 64 : Nat) : Int) = Wd.app 21 a x y := by
  rw [j_less a x y b hb, Wd.app20, Wd.app21]
  have h' : ofB (Wd.wid a) x (Wd.wid a - 1) = ofB (Wd.wid a) y (Wd.wid a - 1) := by simpa using h
  rw [topX, topX] at h'
  unfold Wd.ltv Wd.sgn
  by_cases e : Wd.hib a ≤ Wd.cut a x
  · have e2 : Wd.hib a ≤ Wd.cut a y := by rw [show decide (Wd.hib a ≤ Wd.cut a x) = true from by simpa using e] at h'; exact of_decide_eq_true h'.symm
    rw [if_neg (show ¬ Wd.cut a x < Wd.hib a by omega), if_neg (show ¬ Wd.cut a y < Wd.hib a by omega)]
    split <;> split <;> omega
  · have e2 : ¬ Wd.hib a ≤ Wd.cut a y := by rw [show decide (Wd.hib a ≤ Wd.cut a x) = false from by simpa using e] at h'; exact of_decide_eq_false h'.symm
    rw [if_pos (show Wd.cut a x < Wd.hib a by omega), if_pos (show Wd.cut a y < Wd.hib a by omega)]
end Wb
end Go.Proofs.Ytdbcpnpcnkccaaa
namespace Go.Proofs.Ytdbcpnpcnkccaaa
set_option maxRecDepth 100000
open Go.RowKit

theorem rapply_any (op a : Int) (x y : Nat) (hx : x < 18446744073709551616) (hy : y < 18446744073709551616) (w : World) :
    Calls Try.prog 109 #[.int .i64 op, .int .i64 a, .int .u64 x, .int .u64 y] w fun e w' => e = .returned (.int .u64 (Wd.app op a x y)) ∧ Below w.heap.size w w' := by
  have h1 := Wd.wid_lo a
  have h2 := Wd.wid_hi a
  by_cases h5 : op = 5
  · subst h5
    rw [← Wb.j_not a x y]
    exact rap_not a x y _ _ _ _ _ (Lib.hid rfl) (Lib.hid rfl) (Lib.hid rfl) (Lib.hid rfl) (Lib.hid rfl) hx hy h1 h2 w
  by_cases h8 : op = 8
  · subst h8
    rw [← Wb.j_add a x y]
    exact rap_add a x y _ _ _ _ _ (Lib.hid rfl) (Lib.hid rfl) (Lib.hid rfl) (Lib.hid rfl) (Lib.hid rfl) hx hy h1 h2 w
  by_cases h9 : op = 9
  · subst h9
    rw [← Wb.j_sub a x y]
    exact rap_sub a x y _ _ _ _ _ (Lib.hid rfl) (Lib.hid rfl) (Lib.hid rfl) (Lib.hid rfl) (Lib.hid rfl) hx hy h1 h2 w
  by_cases h10 : op = 10
  · subst h10
    rw [← Wb.j_mul a x y]
    exact rap_mul a x y _ _ _ _ _ (Lib.hid rfl) (Lib.hid rfl) (Lib.hid rfl) (Lib.hid rfl) (Lib.hid rfl) hx hy h1 h2 w
  by_cases h11 : op = 11
  · subst h11
    rw [← Wb.j_div a x y]
    exact rap_div a x y _ _ _ _ _ (Lib.hid rfl) (Lib.hid rfl) (Lib.hid rfl) (Lib.hid rfl) (Lib.hid rfl) hx hy h1 h2 w
  by_cases h12 : op = 12
  · subst h12
    rw [← Wb.j_rem a x y]
    exact rap_rem a x y _ _ _ _ _ (Lib.hid rfl) (Lib.hid rfl) (Lib.hid rfl) (Lib.hid rfl) (Lib.hid rfl) hx hy h1 h2 w
  by_cases h13 : op = 13
  · subst h13
    rw [← Wb.j_and a x y]
    exact rap_and a x y _ _ _ _ _ (Lib.hid rfl) (Lib.hid rfl) (Lib.hid rfl) (Lib.hid rfl) (Lib.hid rfl) hx hy h1 h2 w
  by_cases h14 : op = 14
  · subst h14
    rw [← Wb.j_or a x y]
    exact rap_or a x y _ _ _ _ _ (Lib.hid rfl) (Lib.hid rfl) (Lib.hid rfl) (Lib.hid rfl) (Lib.hid rfl) hx hy h1 h2 w
  by_cases h15 : op = 15
  · subst h15
    rw [← Wb.j_xor a x y]
    exact rap_xor a x y _ _ _ _ _ (Lib.hid rfl) (Lib.hid rfl) (Lib.hid rfl) (Lib.hid rfl) (Lib.hid rfl) hx hy h1 h2 w
  by_cases h16 : op = 16
  · subst h16
    rw [← Wb.j_shl a x y]
    exact rap_shl a x y _ _ _ _ _ (Lib.hid rfl) (Lib.hid rfl) (Lib.hid rfl) (Lib.hid rfl) (Lib.hid rfl) hx hy h1 h2 w
  by_cases h17 : op = 17
  · subst h17
    rw [← Wb.j_shr a x y]
    exact rap_shr a x y _ _ _ _ _ (Lib.hid rfl) (Lib.hid rfl) (Lib.hid rfl) (Lib.hid rfl) (Lib.hid rfl) hx hy h1 h2 w
  by_cases h18 : op = 18
  · subst h18
    rw [← Wb.j_sar a x y]
    exact rap_sar a x y _ _ _ _ _ (Lib.hid rfl) (Lib.hid rfl) (Lib.hid rfl) (Lib.hid rfl) (Lib.hid rfl) hx hy h1 h2 w
  by_cases h19 : op = 19
  · subst h19
    rw [← Wb.j_eq a x y _ rfl]
    exact rap_eq a x y _ _ _ _ _ (Lib.hid rfl) (Lib.hid rfl) (Lib.hid rfl) (Lib.hid rfl) (Lib.hid rfl) hx hy h1 h2 _ (Lib.hid rfl) w
  by_cases h20 : op = 20
  · subst h20
    rw [← Wb.j_less a x y _ rfl]
    exact rap_less a x y _ _ _ _ _ (Lib.hid rfl) (Lib.hid rfl) (Lib.hid rfl) (Lib.hid rfl) (Lib.hid rfl) hx hy h1 h2 _ (Lib.hid rfl) w
  by_cases h21 : op = 21
  · subst h21
    by_cases hne : (Wb.ofB (Wd.wid a) x (Wd.wid a - 1) == Wb.ofB (Wd.wid a) y (Wd.wid a - 1)) = true
    · rw [← Wb.j_below2 a x y _ rfl hne]
      exact rap_below2 a x y _ _ _ _ _ (Lib.hid rfl) (Lib.hid rfl) (Lib.hid rfl) (Lib.hid rfl) (Lib.hid rfl) hx hy h1 h2 _ (Lib.hid rfl) hne w
    · have hne' : (Wb.ofB (Wd.wid a) x (Wd.wid a - 1) == Wb.ofB (Wd.wid a) y (Wd.wid a - 1)) = false := by simpa using hne
      rw [← Wb.j_below1 a x y hne']
      exact rap_below1 a x y _ _ _ _ _ (Lib.hid rfl) (Lib.hid rfl) (Lib.hid rfl) (Lib.hid rfl) (Lib.hid rfl) hx hy h1 h2 hne' w
  have e : Wd.app op a x y = 0 := by simp [Wd.app, h5, h8, h9, h10, h11, h12, h13, h14, h15, h16, h17, h18, h19, h20, h21]
  rw [e]
  exact rap_none op a x y _ _ _ _ _ (Lib.hid rfl) (Lib.hid rfl) (Lib.hid rfl) (Lib.hid rfl) (Lib.hid rfl) hx hy h1 h2 (beq_eq_false_iff_ne.2 h5) (beq_eq_false_iff_ne.2 h8) (beq_eq_false_iff_ne.2 h9) (beq_eq_false_iff_ne.2 h10) (beq_eq_false_iff_ne.2 h11) (beq_eq_false_iff_ne.2 h12) (beq_eq_false_iff_ne.2 h13) (beq_eq_false_iff_ne.2 h14) (beq_eq_false_iff_ne.2 h15) (beq_eq_false_iff_ne.2 h16) (beq_eq_false_iff_ne.2 h17) (beq_eq_false_iff_ne.2 h18) (beq_eq_false_iff_ne.2 h19) (beq_eq_false_iff_ne.2 h20) (beq_eq_false_iff_ne.2 h21) w

end Go.Proofs.Ytdbcpnpcnkccaaa
