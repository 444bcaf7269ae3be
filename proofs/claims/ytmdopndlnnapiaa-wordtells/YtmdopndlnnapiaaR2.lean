/-
  Contracts of the reference's words: Width, Not, Of, Num.
-/
import Derived.Test.YtmdopndlnnapiaaR1
namespace Go.Proofs.Ytmdopndlnnapiaa
open Go.RowKit

set_option maxHeartbeats 400000 in
theorem rwidth_any (a : Int) (w : World) :
    Calls Try.prog 17 #[.int .i64 a] w fun e w' => e = .returned (.int .i64 (Wd.wid a)) ∧ w = w' := by
  go_enter Try.func17, Try.ntmps17
  go_wp2
  all_goals
    go_ret
    refine ⟨ret_int ?_, rfl⟩
    unfold Wd.wid
    omega

set_option maxHeartbeats 400000 in
theorem not_any (n : Nat) (f : Nat → Bool) (h2 : n ≤ 64) (w : World) :
    Calls Try.prog 24 #[.int .i64 n, .agg (bw f)] w fun e w' => e = .returned (.agg (bw (Wb.notB n f))) ∧ Below w.heap.size w w' := by
  go_enter Try.func24, Try.ntmps24
  go_wp2
  rw [bw_zero]
  refine gen_world (S := fun W => Row W w.heap.size f ∧ Row W (w.heap.size + 1) off ∧ Row W (w.heap.size + 1 + 1) off ∧ Below w.heap.size w W) ?_ ?_
  · exact ⟨((Row.new w f).alloc _).alloc _, (Row.new_at (w.alloc _) off (by simp)).alloc _, Row.new_at ((w.alloc _).alloc _) off (by simp), below_three⟩
  intro W ⟨r0, r1, r2, hb⟩
  go_loopw [6] (fun i V => ∃ k : Nat, k ≤ n ∧ i = .int .i64 k ∧ Row V w.heap.size f ∧ Row V (w.heap.size + 1) off ∧ Row V (w.heap.size + 1 + 1) (Wb.notB k f) ∧ Below w.heap.size w V) (fun i _ => n - (intOf i).toNat)
  case atStart => exact ⟨0, Nat.zero_le _, rfl, r0, r1, Wb.notB_zero f ▸ r2, hb⟩
  case round =>
    clear r0 r1 r2 hb W
    obtain ⟨k, hk, rfl, r0, r1, r2, hb⟩ := hrel
    by_cases hlt : k < n
    · have c0 := r0.cell (j := k) (by omega)
      have c2 := r2.cell (j := k) (by omega)
      have z2 := r2.loose k
      go_wp2
      go_roundw
      case rel => exact ⟨k + 1, by omega, by go_num, r0.set_other (by omega) _ _, r1.set_other (by omega) _ _, Wb.notB_succ f k ▸ r2.set_same k _, hb.setCell (by show w.heap.size ≤ w.heap.size + 1 + 1; omega) _⟩
      case measure => simp [intOf]; omega
    · obtain rfl : k = n := by omega
      go_wp2_with (first
        | (with_reducible refine load_row (.tmp 5) _ _ r2 rfl rfl rfl ?_)
        | (with_reducible refine store_row (.tmp 4) (.tmp 18) _ _ _ r1 rfl rfl rfl rfl ?_))
      exact ret_row (p := 4) _ _ (r1.row_same _) Try.results24 rfl rfl ⟨rfl, below_setRow hb (by omega) _⟩

set_option maxHeartbeats 400000 in
theorem of_any (n x : Nat) (h2 : n ≤ 64) (hx : x < 18446744073709551616) (w : World) :
    Calls Try.prog 16 #[.int .i64 n, .int .u64 x] w fun e w' => e = .returned (.agg (bw (Wb.ofB n x))) ∧ Below w.heap.size w w' := by
  go_enter Try.func16, Try.ntmps16
  go_wp2
  rw [bw_zero]
  refine gen_world (S := fun W => Row W w.heap.size off ∧ Row W (w.heap.size + 1) off ∧ Below w.heap.size w W) ?_ ?_
  · exact ⟨(Row.new w off).alloc _, Row.new_at (w.alloc _) off (by simp), below_two⟩
  intro W ⟨r0, r1, hb⟩
  go_loopw [1, 6] (fun y i V => ∃ k : Nat, k ≤ 64 ∧ i = .int .i64 k ∧ y = .int .u64 ((x / 2 ^ k : Nat) : Int) ∧ Row V w.heap.size off ∧ Row V (w.heap.size + 1) (Wb.ofP n x k) ∧ Below w.heap.size w V) (fun _ i _ => 64 - (intOf i).toNat)
  case atStart => exact ⟨0, Nat.zero_le _, rfl, by simp, r0, Wb.ofP_zero n x ▸ r1, hb⟩
  case round =>
    clear r0 r1 hb W
    obtain ⟨k, hk, rfl, rfl, r0, r1, hb⟩ := hrel
    have hle : x / 2 ^ k ≤ x := Nat.div_le_self _ _
    have hq : x / 2 ^ k / 2 = x / 2 ^ (k + 1) := by rw [Nat.div_div_eq_div_mul, Nat.pow_succ]
    have ht := Nat.testBit_eq_decide_div_mod_eq (x := x) (i := k)
    generalize x / 2 ^ k = q at *
    have HQ := Lib.hid hq
    have B1 : k < n → ((q : Int) % 2 == 1) = Wb.ofB n x k := by
      intro h; unfold Wb.ofB; rw [ht, Bool.eq_iff_iff]; simp [h]; omega
    have B2 : ¬ k < n → false = Wb.ofB n x k := by
      intro h; unfold Wb.ofB; simp [h]
    have H1 := Lib.hid B1
    have H2 := Lib.hid B2
    clear hq ht B1 B2
    by_cases hlt : k < 64
    · have c1 := r1.cell (j := k) (by omega)
      have z1 := r1.loose k
      go_wp2
      all_goals
        go_roundw
        case rel =>
          refine ⟨k + 1, by omega, by go_num, ?_, r0.set_other (by omega) _ _, ?_, hb.setCell (by show w.heap.size ≤ w.heap.size + 1; omega) _⟩
          · rw [← HQ.out]; exact congrArg (Value.int .u64) (by omega)
          · first
              | exact (Wb.ofP_succ n x k _ (H1.out ‹_›)) ▸ r1.set_same k _
              | exact (Wb.ofP_succ n x k _ (H2.out ‹_›)) ▸ r1.set_same k _
        case measure => simp [intOf]; omega
    · obtain rfl : k = 64 := by omega
      rw [Wb.ofP_last n x h2] at r1
      go_wp2_with (first
        | (with_reducible refine load_row (.tmp 5) _ _ r1 rfl rfl rfl ?_)
        | (with_reducible refine store_row (.tmp 4) (.tmp 23) _ _ _ r0 rfl rfl rfl rfl ?_))
      exact ret_row (p := 4) _ _ (r0.row_same _) Try.results16 rfl rfl ⟨rfl, below_setRow hb (by omega) _⟩

set_option maxHeartbeats 400000 in
theorem num_any (f : Nat → Bool) (w : World) :
    Calls Try.prog 15 #[.agg (bw f)] w fun e w' => e = .returned (.int .u64 (Wb.val f 64 : Nat)) ∧ Below w.heap.size w w' := by
  go_enter Try.func15, Try.ntmps15
  go_wp2
  refine gen_world (S := fun W => Row W w.heap.size f ∧ Below w.heap.size w W) ⟨Row.new w f, below_one⟩ ?_
  intro W ⟨r0, hb⟩
  go_loopw [3, 4] (fun s i V => ∃ m : Nat, m ≤ 64 ∧ i = .int .i64 (63 - (m : Int)) ∧ s = .int .u64 (Wb.hor f m : Nat) ∧ Row V w.heap.size f ∧ Below w.heap.size w V) (fun _ i _ => (intOf i + 1).toNat)
  case atStart => exact ⟨0, Nat.zero_le _, rfl, rfl, r0, hb⟩
  case round =>
    clear r0 hb W
    obtain ⟨m, hm, rfl, rfl, r0, hb⟩ := hrel
    by_cases hlt : m < 64
    · have c0 := r0.cell (j := 63 - m) (by omega)
      have hbd := Wb.hor_bd f m hlt
      have T1 : f (63 - m) = true → ((Wb.hor f m : Nat) : Int) * 2 + 1 = (Wb.hor f (m + 1) : Nat) := by intro h; rw [Wb.hor]; simp [h]; omega
      have T2 : f (63 - m) = false → ((Wb.hor f m : Nat) : Int) * 2 = (Wb.hor f (m + 1) : Nat) := by intro h; rw [Wb.hor]; simp [h]; omega
      have H1 := Lib.hid T1
      have H2 := Lib.hid T2
      clear T1 T2
      have hi : (63 - (m : Int)).toNat = 63 - m := by omega
      have hi0 : 0 ≤ 63 - (m : Int) := by omega
      go_wp2
      all_goals
        go_roundw
        case rel =>
          refine ⟨m + 1, by omega, congrArg (Value.int .i64) (by omega), ?_, r0, hb⟩
          first
            | exact congrArg (Value.int .u64) (H1.out ‹_›)
            | exact congrArg (Value.int .u64) (H2.out ‹_›)
        case measure => simp [intOf]; omega
    · obtain rfl : m = 64 := by omega
      go_wp2
      go_ret
      exact ⟨ret_int (by rw [Wb.hor_all]), hb⟩
end Go.Proofs.Ytmdopndlnnapiaa
