/-
  Contracts of the reference's words: bitwise.
-/
import Derived.Test.YtmdopndlnnapiaaR4
import Derived.BigRegion
namespace Go.Proofs.Ytmdopndlnnapiaa
open Go.RowKit

set_option maxHeartbeats 1000000 in
theorem bitAnd_any (n : Nat) (f g : Nat → Bool) (h2 : n ≤ 64) (w : World) :
    Calls Try.prog 31 #[.int .i64 13, .int .i64 n, .agg (bw f), .agg (bw g)] w fun e w' => e = .returned (.agg (bw (Wb.bitB n and f g))) ∧ Below w.heap.size w w' := by
  go_enter Try.func31, Try.ntmps31
  go_wp2
  rw [bw_zero]
  refine gen_world (S := fun W => Row W w.heap.size f ∧ Row W (w.heap.size + 1) g ∧ Row W (w.heap.size + 1 + 1) off ∧ Row W (w.heap.size + 1 + 1 + 1) off ∧ Below w.heap.size w W) ?_ ?_
  · exact ⟨(((Row.new w f).alloc _).alloc _).alloc _, ((Row.new_at (w.alloc _) g (by simp)).alloc _).alloc _, (Row.new_at ((w.alloc _).alloc _) off (by simp)).alloc _, Row.new_at (((w.alloc _).alloc _).alloc _) off (by simp), below_four⟩
  intro W ⟨r0, r1, r2, r3, hb⟩
  go_loopw [10] (fun i V => ∃ k : Nat, k ≤ n ∧ i = .int .i64 k ∧ Row V w.heap.size f ∧ Row V (w.heap.size + 1) g ∧ Row V (w.heap.size + 1 + 1) off ∧ Row V (w.heap.size + 1 + 1 + 1) (Wb.bitB k and f g) ∧ Below w.heap.size w V) (fun i _ => n - (intOf i).toNat)
  case atStart => exact ⟨0, Nat.zero_le _, rfl, r0, r1, r2, Wb.bitB_zero and f g ▸ r3, hb⟩
  case round =>
    clear r0 r1 r2 r3 hb W
    obtain ⟨k, hk, rfl, r0, r1, r2, r3, hb⟩ := hrel
    by_cases hlt : k < n
    · have c0 := r0.cell (j := k) (by omega)
      have c1 := r1.cell (j := k) (by omega)
      have c3 := r3.cell (j := k) (by omega)
      have z3 := r3.loose k
      have HS := Lib.hid (Wb.bitB_succ and f g k)
      generalize f k = p at *
      generalize g k = q at *
      cases p <;> cases q
      all_goals
        go_wp2
        go_roundw
        case rel => exact ⟨k + 1, by omega, by go_num, r0.set_other (by omega) _ _, r1.set_other (by omega) _ _, r2.set_other (by omega) _ _, HS.out ▸ r3.set_same k _, hb.setCell (by show w.heap.size ≤ w.heap.size + 1 + 1 + 1; omega) _⟩
        case measure => (simp [intOf]; try omega)
    · obtain rfl : k = n := by omega
      go_wp2_with (first
        | (with_reducible refine load_row (.tmp 9) _ _ r3 rfl rfl rfl ?_)
        | (with_reducible refine store_row (.tmp 8) (.tmp 52) _ _ _ r2 rfl rfl rfl rfl ?_))
      exact ret_row (p := 8) _ _ (r2.row_same _) Try.results31 rfl rfl ⟨rfl, below_setRow hb (by omega) _⟩

set_option maxHeartbeats 1000000 in
theorem bitOr_any (n : Nat) (f g : Nat → Bool) (h2 : n ≤ 64) (w : World) :
    Calls Try.prog 31 #[.int .i64 14, .int .i64 n, .agg (bw f), .agg (bw g)] w fun e w' => e = .returned (.agg (bw (Wb.bitB n or f g))) ∧ Below w.heap.size w w' := by
  go_enter Try.func31, Try.ntmps31
  go_wp2
  rw [bw_zero]
  refine gen_world (S := fun W => Row W w.heap.size f ∧ Row W (w.heap.size + 1) g ∧ Row W (w.heap.size + 1 + 1) off ∧ Row W (w.heap.size + 1 + 1 + 1) off ∧ Below w.heap.size w W) ?_ ?_
  · exact ⟨(((Row.new w f).alloc _).alloc _).alloc _, ((Row.new_at (w.alloc _) g (by simp)).alloc _).alloc _, (Row.new_at ((w.alloc _).alloc _) off (by simp)).alloc _, Row.new_at (((w.alloc _).alloc _).alloc _) off (by simp), below_four⟩
  intro W ⟨r0, r1, r2, r3, hb⟩
  go_loopw [10] (fun i V => ∃ k : Nat, k ≤ n ∧ i = .int .i64 k ∧ Row V w.heap.size f ∧ Row V (w.heap.size + 1) g ∧ Row V (w.heap.size + 1 + 1) off ∧ Row V (w.heap.size + 1 + 1 + 1) (Wb.bitB k or f g) ∧ Below w.heap.size w V) (fun i _ => n - (intOf i).toNat)
  case atStart => exact ⟨0, Nat.zero_le _, rfl, r0, r1, r2, Wb.bitB_zero or f g ▸ r3, hb⟩
  case round =>
    clear r0 r1 r2 r3 hb W
    obtain ⟨k, hk, rfl, r0, r1, r2, r3, hb⟩ := hrel
    by_cases hlt : k < n
    · have c0 := r0.cell (j := k) (by omega)
      have c1 := r1.cell (j := k) (by omega)
      have c3 := r3.cell (j := k) (by omega)
      have z3 := r3.loose k
      have HS := Lib.hid (Wb.bitB_succ or f g k)
      generalize f k = p at *
      generalize g k = q at *
      cases p <;> cases q
      all_goals
        go_wp2
        go_roundw
        case rel => exact ⟨k + 1, by omega, by go_num, r0.set_other (by omega) _ _, r1.set_other (by omega) _ _, r2.set_other (by omega) _ _, HS.out ▸ r3.set_same k _, hb.setCell (by show w.heap.size ≤ w.heap.size + 1 + 1 + 1; omega) _⟩
        case measure => (simp [intOf]; try omega)
    · obtain rfl : k = n := by omega
      go_wp2_with (first
        | (with_reducible refine load_row (.tmp 9) _ _ r3 rfl rfl rfl ?_)
        | (with_reducible refine store_row (.tmp 8) (.tmp 52) _ _ _ r2 rfl rfl rfl rfl ?_))
      exact ret_row (p := 8) _ _ (r2.row_same _) Try.results31 rfl rfl ⟨rfl, below_setRow hb (by omega) _⟩

set_option maxHeartbeats 1000000 in
theorem bitXor_any (n : Nat) (f g : Nat → Bool) (h2 : n ≤ 64) (w : World) :
    Calls Try.prog 31 #[.int .i64 15, .int .i64 n, .agg (bw f), .agg (bw g)] w fun e w' => e = .returned (.agg (bw (Wb.bitB n bne f g))) ∧ Below w.heap.size w w' := by
  go_enter Try.func31, Try.ntmps31
  go_wp2
  rw [bw_zero]
  refine gen_world (S := fun W => Row W w.heap.size f ∧ Row W (w.heap.size + 1) g ∧ Row W (w.heap.size + 1 + 1) off ∧ Row W (w.heap.size + 1 + 1 + 1) off ∧ Below w.heap.size w W) ?_ ?_
  · exact ⟨(((Row.new w f).alloc _).alloc _).alloc _, ((Row.new_at (w.alloc _) g (by simp)).alloc _).alloc _, (Row.new_at ((w.alloc _).alloc _) off (by simp)).alloc _, Row.new_at (((w.alloc _).alloc _).alloc _) off (by simp), below_four⟩
  intro W ⟨r0, r1, r2, r3, hb⟩
  go_loopw [10] (fun i V => ∃ k : Nat, k ≤ n ∧ i = .int .i64 k ∧ Row V w.heap.size f ∧ Row V (w.heap.size + 1) g ∧ Row V (w.heap.size + 1 + 1) off ∧ Row V (w.heap.size + 1 + 1 + 1) (Wb.bitB k bne f g) ∧ Below w.heap.size w V) (fun i _ => n - (intOf i).toNat)
  case atStart => exact ⟨0, Nat.zero_le _, rfl, r0, r1, r2, Wb.bitB_zero bne f g ▸ r3, hb⟩
  case round =>
    clear r0 r1 r2 r3 hb W
    obtain ⟨k, hk, rfl, r0, r1, r2, r3, hb⟩ := hrel
    by_cases hlt : k < n
    · have c0 := r0.cell (j := k) (by omega)
      have c1 := r1.cell (j := k) (by omega)
      have c3 := r3.cell (j := k) (by omega)
      have z3 := r3.loose k
      have HS := Lib.hid (Wb.bitB_succ bne f g k)
      generalize f k = p at *
      generalize g k = q at *
      cases p <;> cases q
      all_goals
        go_wp2
        go_region
        all_goals go_wp2
        go_roundw
        case rel => exact ⟨k + 1, by omega, by go_num, r0.set_other (by omega) _ _, r1.set_other (by omega) _ _, r2.set_other (by omega) _ _, HS.out ▸ r3.set_same k _, Below.drew (hb.setCell (by show w.heap.size ≤ w.heap.size + 1 + 1 + 1; omega) _)⟩
        case measure => (simp [intOf]; try omega)
    · obtain rfl : k = n := by omega
      go_wp2_with (first
        | (with_reducible refine load_row (.tmp 9) _ _ r3 rfl rfl rfl ?_)
        | (with_reducible refine store_row (.tmp 8) (.tmp 52) _ _ _ r2 rfl rfl rfl rfl ?_))
      exact ret_row (p := 8) _ _ (r2.row_same _) Try.results31 rfl rfl ⟨rfl, below_setRow hb (by omega) _⟩
end Go.Proofs.Ytmdopndlnnapiaa
