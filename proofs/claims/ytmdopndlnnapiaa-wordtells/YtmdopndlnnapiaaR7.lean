/-
  The contract of the reference's Div where the divisor is nought; Sign, Mask.
-/
import Derived.Test.YtmdopndlnnapiaaR6
namespace Go.Proofs.Ytmdopndlnnapiaa
open Go.RowKit

theorem built29 : Try.prog.built 29 [] = some (bw off) := by kernel_rfl

set_option maxHeartbeats 1000000 in
theorem div_nought (n : Nat) (f g : Nat → Bool) (h2 : n ≤ 64) (hg : Wb.val g 64 = 0) (w : World) :
    Calls Try.prog 28 #[.int .i64 n, .agg (bw f), .agg (bw g)] w fun e w' => e = .returned (.tuple #[.agg (bw (Wb.notB n off)), .agg (bw f)]) ∧ Below w.heap.size w w' := by
  have HG := Lib.hid hg
  clear hg
  go_enter Try.func28, Try.ntmps28
  go_upto_region 1 with (fail)
  rw [bw_zero]
  refine gen_world (S := fun W => Row W w.heap.size f ∧ Row W (w.heap.size + 1) g ∧ Row W (w.heap.size + 1 + 1) off ∧ Row W (w.heap.size + 1 + 1 + 1) off ∧ Below w.heap.size w W) ?_ ?_
  · exact ⟨(((Row.new w f).alloc _).alloc _).alloc _, ((Row.new_at (w.alloc _) g (by simp)).alloc _).alloc _, (Row.new_at ((w.alloc _).alloc _) off (by simp)).alloc _, Row.new_at (((w.alloc _).alloc _).alloc _) off (by simp), below_four⟩
  intro W ⟨r0, r1, r2, r3, hb⟩
  go_wp2_with (first
    | (with_reducible refine load_row (.tmp 5) _ _ r1 rfl rfl rfl ?_)
    | fail)
  refine (num_any g _).mono ?_
  rintro e w1 ⟨rfl, hb1⟩
  rw [HG.out]
  have q0 := r0.below hb1 r0.lt
  have q2 := r2.below hb1 r2.lt
  have q3 := r3.below hb1 r3.lt
  have qb := hb.trans (hb1.mono (by have := hb.size; omega))
  clear r0 r1 r2 r3 hb hb1
  go_wp2
  generalize hB : w.heap.size = B at *
  have HB := Lib.hid hB
  clear hB
  refine wp_region_any (by kernel_rfl) ?_
  change wpAny _ _ _ _ _ _ _ w1.drew
  have a0 : Row w1.drew B f := q0
  have a2 : Row w1.drew (B + 1 + 1) off := q2
  have a3 : Row w1.drew (B + 1 + 1 + 1) off := q3
  have ab : Below B w w1.drew := qb.drew
  clear q0 q2 q3 qb
  generalize w1.drew = w4 at *
  refine wpAny_take (i := 0) (v := .int .i64 n) rfl (by kernel_rfl) (by kernel_rfl) (by kernel_rfl) (fun _ _ _ h => h) (Or.inl ⟨by rfl, fun _ => rfl⟩) ?_
  refine wpAny_take (i := 1) (v := .agg (bw off)) rfl (by kernel_rfl) (by kernel_rfl) (by kernel_rfl) (fun _ _ _ h => h) (Or.inl ⟨by rfl, fun _ => by simp [execOp, run_build _ 29 #[] (bw off) built29]⟩) ?_
  simp [Act.put]
  refine wpAny_ready (rs := [2, 3]) (by kernel_rfl) (by simp) (AllReady.cons rfl (fun K hK => ?_) (AllReady.cons rfl (fun K hK => ?_) AllReady.nil))
  · go_simp
    refine (not_any n off h2 _).mono ?_
    rintro e w5 ⟨rfl, hb5⟩
    refine hK _ _ ?_
    clear hK K
    have b0 := a0.below hb5 a0.lt
    have b2 := a2.below hb5 a2.lt
    have b3 := a3.below hb5 a3.lt
    have bb := ab.trans (hb5.mono (by have := a0.lt; omega))
    clear a0 a2 a3 ab hb5
    refine wpAny_ready (rs := [3, 4]) (by kernel_rfl) (by simp) (AllReady.cons rfl (fun K hK => ?_) (AllReady.cons rfl (fun K hK => ?_) AllReady.nil))
    · with_reducible refine step_load (.tmp 4) B f b0 rfl rfl rfl ?_
      refine hK _ _ ?_
      clear hK K
      simp [Act.put]
      refine wpAny_ready (rs := [4]) (by kernel_rfl) (by simp) (AllReady.cons rfl (fun K hK => ?_) AllReady.nil)
      with_reducible refine step_store (.tmp 6) (.tmp 17) (B + 1 + 1) off (Wb.notB n off) b2 rfl rfl rfl rfl ?_
      refine hK _ _ ?_
      clear hK K
      simp [Act.put]
      have c2 := b2.row_same (Wb.notB n off)
      have c3 := b3.row_other (k := B + 1 + 1) (by omega) (bw (Wb.notB n off))
      have c0 := b0.row_other (k := B + 1 + 1) (by omega) (bw (Wb.notB n off))
      have cb := below_setRow bb (show B ≤ B + 1 + 1 by omega) (bw (Wb.notB n off))
      clear b0 b2 b3 bb
      generalize w5.setRow (B + 1 + 1) (bw (Wb.notB n off)) = w6 at *
      refine wpAny_ready (rs := [5]) (by kernel_rfl) (by simp) (AllReady.cons rfl (fun K hK => ?_) AllReady.nil)
      with_reducible refine step_store (.tmp 7) (.tmp 18) (B + 1 + 1 + 1) off f c3 rfl rfl rfl rfl ?_
      refine hK _ _ ?_
      clear hK K
      simp [Act.put]
      have d2 := c2.row_other (k := B + 1 + 1 + 1) (by omega) (bw f)
      have d3 := c3.row_same f
      have db := below_setRow cb (show B ≤ B + 1 + 1 + 1 by omega) (bw f)
      generalize w6.setRow (B + 1 + 1 + 1) (bw f) = w7 at *
      refine wpAny_done (by kernel_rfl) ?_ _
      clear c0 c2 c3 cb
      go_wp2
      exact ret_rows (p := 6) (p' := 7) _ _ _ _ d2 d3 Try.results28 rfl rfl rfl ⟨rfl, HB.out ▸ db⟩
    · with_reducible refine step_store (.tmp 6) (.tmp 17) (B + 1 + 1) off (Wb.notB n off) b2 rfl rfl rfl rfl ?_
      refine hK _ _ ?_
      clear hK K
      simp [Act.put]
      have c2 := b2.row_same (Wb.notB n off)
      have c3 := b3.row_other (k := B + 1 + 1) (by omega) (bw (Wb.notB n off))
      have c0 := b0.row_other (k := B + 1 + 1) (by omega) (bw (Wb.notB n off))
      have cb := below_setRow bb (show B ≤ B + 1 + 1 by omega) (bw (Wb.notB n off))
      clear b0 b2 b3 bb
      generalize w5.setRow (B + 1 + 1) (bw (Wb.notB n off)) = w6 at *
      refine wpAny_ready (rs := [3]) (by kernel_rfl) (by simp) (AllReady.cons rfl (fun K hK => ?_) AllReady.nil)
      with_reducible refine step_load (.tmp 4) B f c0 rfl rfl rfl ?_
      refine hK _ _ ?_
      clear hK K
      simp [Act.put]
      refine wpAny_ready (rs := [5]) (by kernel_rfl) (by simp) (AllReady.cons rfl (fun K hK => ?_) AllReady.nil)
      with_reducible refine step_store (.tmp 7) (.tmp 18) (B + 1 + 1 + 1) off f c3 rfl rfl rfl rfl ?_
      refine hK _ _ ?_
      clear hK K
      simp [Act.put]
      have d2 := c2.row_other (k := B + 1 + 1 + 1) (by omega) (bw f)
      have d3 := c3.row_same f
      have db := below_setRow cb (show B ≤ B + 1 + 1 + 1 by omega) (bw f)
      generalize w6.setRow (B + 1 + 1 + 1) (bw f) = w7 at *
      refine wpAny_done (by kernel_rfl) ?_ _
      clear c0 c2 c3 cb
      go_wp2
      exact ret_rows (p := 6) (p' := 7) _ _ _ _ d2 d3 Try.results28 rfl rfl rfl ⟨rfl, HB.out ▸ db⟩
  · with_reducible refine step_load (.tmp 4) B f a0 rfl rfl rfl ?_
    refine hK _ _ ?_
    clear hK K
    simp [Act.put]
    refine wpAny_ready (rs := [2]) (by kernel_rfl) (by simp) (AllReady.cons rfl (fun K hK => ?_) AllReady.nil)
    go_simp
    refine (not_any n off h2 _).mono ?_
    rintro e w5 ⟨rfl, hb5⟩
    refine hK _ _ ?_
    clear hK K
    have b0 := a0.below hb5 a0.lt
    have b2 := a2.below hb5 a2.lt
    have b3 := a3.below hb5 a3.lt
    have bb := ab.trans (hb5.mono (by have := a0.lt; omega))
    clear a0 a2 a3 ab hb5
    refine wpAny_ready (rs := [4]) (by kernel_rfl) (by simp) (AllReady.cons rfl (fun K hK => ?_) AllReady.nil)
    with_reducible refine step_store (.tmp 6) (.tmp 17) (B + 1 + 1) off (Wb.notB n off) b2 rfl rfl rfl rfl ?_
    refine hK _ _ ?_
    clear hK K
    simp [Act.put]
    have c2 := b2.row_same (Wb.notB n off)
    have c3 := b3.row_other (k := B + 1 + 1) (by omega) (bw (Wb.notB n off))
    have c0 := b0.row_other (k := B + 1 + 1) (by omega) (bw (Wb.notB n off))
    have cb := below_setRow bb (show B ≤ B + 1 + 1 by omega) (bw (Wb.notB n off))
    clear b0 b2 b3 bb
    generalize w5.setRow (B + 1 + 1) (bw (Wb.notB n off)) = w6 at *
    refine wpAny_ready (rs := [5]) (by kernel_rfl) (by simp) (AllReady.cons rfl (fun K hK => ?_) AllReady.nil)
    with_reducible refine step_store (.tmp 7) (.tmp 18) (B + 1 + 1 + 1) off f c3 rfl rfl rfl rfl ?_
    refine hK _ _ ?_
    clear hK K
    simp [Act.put]
    have d2 := c2.row_other (k := B + 1 + 1 + 1) (by omega) (bw f)
    have d3 := c3.row_same f
    have db := below_setRow cb (show B ≤ B + 1 + 1 + 1 by omega) (bw f)
    generalize w6.setRow (B + 1 + 1 + 1) (bw f) = w7 at *
    refine wpAny_done (by kernel_rfl) ?_ _
    clear c0 c2 c3 cb
    go_wp2
    exact ret_rows (p := 6) (p' := 7) _ _ _ _ d2 d3 Try.results28 rfl rfl rfl ⟨rfl, HB.out ▸ db⟩

namespace Wb
/-- The number with its sign, from the top down. -/
def sg (n : Nat) (f : Nat → Bool) : Nat → Int
  | 0 => if f (n - 1) then -1 else 0
  | m + 1 => sg n f m * 2 + (if f (n - 1 - m) then 1 else 0)
theorem sg_val (n : Nat) (f : Nat → Bool) : ∀ m, m ≤ n → sg n f m * ((2 ^ (n - m) : Nat) : Int) + (val f (n - m) : Nat) = (val f n : Nat) - (if f (n - 1) then ((2 ^ n : Nat) : Int) else 0)
  | 0, _ => by
    rw [sg, Nat.sub_zero]; split <;> omega
  | m + 1, h => by
    have ih := sg_val n f m (by omega)
    rw [← ih, sg, show n - m = (n - 1 - m) + 1 from by omega, val, show n - (m + 1) = n - 1 - m from by omega, Nat.pow_succ]
    generalize 2 ^ (n - 1 - m) = p
    rw [Int.add_mul, Int.mul_assoc]
    split
    · push_cast; rw [Int.mul_comm (p : Int) 2, Int.one_mul]; omega
    · push_cast; rw [Int.mul_comm (p : Int) 2, Int.zero_mul]; omega
theorem sg_bd (n : Nat) (f : Nat → Bool) : ∀ m, -((2 ^ m : Nat) : Int) ≤ sg n f (m + 1) ∧ sg n f (m + 1) < ((2 ^ m : Nat) : Int)
  | 0 => by
    rw [sg, sg]; simp; split <;> simp
  | m + 1 => by
    have ih := sg_bd n f m
    rw [sg, Nat.pow_succ]
    generalize 2 ^ m = p at *
    split <;> (push_cast; omega)
theorem sg_in (n : Nat) (f : Nat → Bool) (m : Nat) (h : m < 64) : -4611686018427387904 ≤ sg n f m ∧ sg n f m < 4611686018427387904 := by
  cases m with
  | zero => rw [sg]; split <;> omega
  | succ m =>
    have h1 := sg_bd n f m
    have h2 : 2 ^ m ≤ 2 ^ 62 := Nat.pow_le_pow_right (by decide) (by omega)
    omega
end Wb

end Go.Proofs.Ytmdopndlnnapiaa
