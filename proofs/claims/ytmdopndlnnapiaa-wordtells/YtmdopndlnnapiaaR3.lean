/-
  Contracts of the reference's words: Add, Up, Down, Less, truth, far.
-/
import Derived.Test.YtmdopndlnnapiaaR2
import Derived.Deep.Cut
namespace Go.Proofs.Ytmdopndlnnapiaa
open Go.RowKit

set_option maxHeartbeats 1000000 in
theorem add_any (n : Nat) (f g : Nat → Bool) (c : Bool) (h2 : n ≤ 64) (w : World) :
    Calls Try.prog 29 #[.int .i64 n, .agg (bw f), .agg (bw g), .bool c] w fun e w' => e = .returned (.agg (bw (Wb.addB n f g c))) ∧ Below w.heap.size w w' := by
  go_enter Try.func29, Try.ntmps29
  go_wp2
  rw [bw_zero]
  refine gen_world (S := fun W => Row W w.heap.size f ∧ Row W (w.heap.size + 1) g ∧ Row W (w.heap.size + 1 + 1) off ∧ Row W (w.heap.size + 1 + 1 + 1) off ∧ Below w.heap.size w W) ?_ ?_
  · exact ⟨(((Row.new w f).alloc _).alloc _).alloc _, ((Row.new_at (w.alloc _) g (by simp)).alloc _).alloc _, (Row.new_at ((w.alloc _).alloc _) off (by simp)).alloc _, Row.new_at (((w.alloc _).alloc _).alloc _) off (by simp), below_four⟩
  intro W ⟨r0, r1, r2, r3, hb⟩
  go_loopw [3, 10] (fun d i V => ∃ k : Nat, k ≤ n ∧ i = .int .i64 k ∧ d = .bool (Wb.car f g c k) ∧ Row V w.heap.size f ∧ Row V (w.heap.size + 1) g ∧ Row V (w.heap.size + 1 + 1) off ∧ Row V (w.heap.size + 1 + 1 + 1) (Wb.addB k f g c) ∧ Below w.heap.size w V) (fun _ i _ => n - (intOf i).toNat)
  case atStart => exact ⟨0, Nat.zero_le _, rfl, rfl, r0, r1, r2, Wb.addB_zero f g c ▸ r3, hb⟩
  case round =>
    clear r0 r1 r2 r3 hb W
    obtain ⟨k, hk, rfl, rfl, r0, r1, r2, r3, hb⟩ := hrel
    by_cases hlt : k < n
    · have c0 := r0.cell (j := k) (by omega)
      have c1 := r1.cell (j := k) (by omega)
      have c3 := r3.cell (j := k) (by omega)
      have z3 := r3.loose k
      have hs := fun b hb => Wb.addB_succ f g c k b hb
      have hc : Wb.car f g c (k + 1) = ((f k && g k) || (f k && Wb.car f g c k) || (g k && Wb.car f g c k)) := rfl
      generalize Wb.car f g c k = d at *
      generalize f k = p at *
      generalize g k = q at *
      have HC := Lib.hid hc
      have HS := Lib.hid hs
      clear hc hs
      cases p <;> cases q <;> cases d
      all_goals
        go_wp2
        go_roundw
        case rel => exact ⟨k + 1, by omega, by go_num, congrArg Value.bool (Eq.symm HC.out), r0.set_other (by omega) _ _, r1.set_other (by omega) _ _, r2.set_other (by omega) _ _, (HS.out _ rfl) ▸ r3.set_same k _, hb.setCell (by show w.heap.size ≤ w.heap.size + 1 + 1 + 1; omega) _⟩
        case measure => simp [intOf]; omega
    · obtain rfl : k = n := by omega
      go_wp2_with (first
        | (with_reducible refine load_row (.tmp 9) _ _ r3 rfl rfl rfl ?_)
        | (with_reducible refine store_row (.tmp 8) (.tmp 37) _ _ _ r2 rfl rfl rfl rfl ?_))
      exact ret_row (p := 8) _ _ (r2.row_same _) Try.results29 rfl rfl ⟨rfl, below_setRow hb (by omega) _⟩

set_option maxHeartbeats 400000 in
theorem up_any (n : Nat) (f : Nat → Bool) (b : Bool) (h1 : 1 ≤ n) (h2 : n ≤ 64) (w : World) :
    Calls Try.prog 39 #[.int .i64 n, .agg (bw f), .bool b] w fun e w' => e = .returned (.agg (bw (Wb.upB n f b))) ∧ Below w.heap.size w w' := by
  go_enter Try.func39, Try.ntmps39
  go_wp2
  rw [bw_zero]
  refine gen_world (S := fun W => Row W w.heap.size f ∧ Row W (w.heap.size + 1) off ∧ Row W (w.heap.size + 1 + 1) off ∧ Below w.heap.size w W) ?_ ?_
  · exact ⟨((Row.new w f).alloc _).alloc _, (Row.new_at (w.alloc _) off (by simp)).alloc _, Row.new_at ((w.alloc _).alloc _) off (by simp), below_three⟩
  intro W ⟨r0, r1, r2, hb⟩
  go_loopw [8] (fun i V => ∃ k : Nat, k < n ∧ i = .int .i64 k ∧ Row V w.heap.size f ∧ Row V (w.heap.size + 1) off ∧ Row V (w.heap.size + 1 + 1) (Wb.upP n f k) ∧ Below w.heap.size w V) (fun i _ => (intOf i).toNat)
  case atStart => exact ⟨n - 1, by omega, congrArg (Value.int .i64) (by omega), r0, r1, Wb.upP_start n f h1 ▸ r2, hb⟩
  case round =>
    clear r0 r1 r2 hb W
    obtain ⟨k, hk, rfl, r0, r1, r2, hb⟩ := hrel
    cases k with
    | zero =>
      have c2 := r2.cell (j := 0) (by omega)
      have z2 := r2.loose 0
      go_wp2_with (first
        | (with_reducible refine load_row (.tmp 7) _ _ (r2.set_same 0 b) rfl rfl rfl ?_)
        | (with_reducible refine store_row (.tmp 6) (.tmp 23) _ _ _ (r1.set_other (by omega) _ _) rfl rfl rfl rfl ?_))
      exact ret_row (p := 6) _ _ ((r1.set_other (by omega) _ _).row_same _) Try.results39 rfl rfl ⟨by rw [Wb.upP_last], below_setRow (hb.setCell (by show w.heap.size ≤ w.heap.size + 1 + 1; omega) _) (by omega) _⟩
    | succ k =>
      have c0 := r0.cell (j := k) (by omega)
      have c2 := r2.cell (j := k + 1) (by omega)
      have z2 := r2.loose (k + 1)
      go_wp2
      go_roundw
      case rel => exact ⟨k, by omega, congrArg (Value.int .i64) (by omega), r0.set_other (by omega) _ _, r1.set_other (by omega) _ _, Wb.upP_step n f k hk ▸ r2.set_same (k + 1) _, hb.setCell (by show w.heap.size ≤ w.heap.size + 1 + 1; omega) _⟩
      case measure => (simp [intOf]; try omega)

set_option maxHeartbeats 400000 in
theorem down_any (n : Nat) (f : Nat → Bool) (b : Bool) (h1 : 1 ≤ n) (h2 : n ≤ 64) (w : World) :
    Calls Try.prog 41 #[.int .i64 n, .agg (bw f), .bool b] w fun e w' => e = .returned (.agg (bw (Wb.downB n f b))) ∧ Below w.heap.size w w' := by
  go_enter Try.func41, Try.ntmps41
  go_wp2
  rw [bw_zero]
  refine gen_world (S := fun W => Row W w.heap.size f ∧ Row W (w.heap.size + 1) off ∧ Row W (w.heap.size + 1 + 1) off ∧ Below w.heap.size w W) ?_ ?_
  · exact ⟨((Row.new w f).alloc _).alloc _, (Row.new_at (w.alloc _) off (by simp)).alloc _, Row.new_at ((w.alloc _).alloc _) off (by simp), below_three⟩
  intro W ⟨r0, r1, r2, hb⟩
  go_loopw [8] (fun i V => ∃ k : Nat, k + 1 ≤ n ∧ i = .int .i64 k ∧ Row V w.heap.size f ∧ Row V (w.heap.size + 1) off ∧ Row V (w.heap.size + 1 + 1) (Wb.downP n f k) ∧ Below w.heap.size w V) (fun i _ => n - (intOf i).toNat)
  case atStart => exact ⟨0, by omega, rfl, r0, r1, Wb.downP_zero n f ▸ r2, hb⟩
  case round =>
    clear r0 r1 r2 hb W
    obtain ⟨k, hk, rfl, r0, r1, r2, hb⟩ := hrel
    by_cases hlt : k + 1 < n
    · have c0 := r0.cell (j := k + 1) (by omega)
      have c2 := r2.cell (j := k) (by omega)
      have z2 := r2.loose k
      have hd : (k : Int) < (n : Int) - 1 := by omega
      go_wp2
      go_roundw
      case rel => exact ⟨k + 1, by omega, by go_num, r0.set_other (by omega) _ _, r1.set_other (by omega) _ _, Wb.downP_succ n f k hlt ▸ r2.set_same k _, hb.setCell (by show w.heap.size ≤ w.heap.size + 1 + 1; omega) _⟩
      case measure => (simp [intOf]; try omega)
    · obtain rfl : n = k + 1 := by omega
      have c2 := r2.cell (j := k) (by omega)
      have z2 := r2.loose k
      have HL := Lib.hid (Wb.downP_last (k + 1) f b h1)
      go_wp2_with (first
        | (with_reducible refine load_row (.tmp 7) _ _ (r2.set_same k b) rfl rfl rfl ?_)
        | (with_reducible refine store_row (.tmp 6) (.tmp 25) _ _ _ (r1.set_other (by omega) _ _) rfl rfl rfl rfl ?_))
      exact ret_row (p := 6) _ _ ((r1.set_other (by omega) _ _).row_same _) Try.results41 rfl rfl ⟨by rw [← HL.out]; rfl, below_setRow (hb.setCell (by show w.heap.size ≤ w.heap.size + 1 + 1; omega) _) (by omega) _⟩

set_option maxHeartbeats 400000 in
theorem truth_any (b : Bool) (w : World) :
    Calls Try.prog 33 #[.bool b] w fun e w' => e = .returned (.agg (bw (upd off 0 b))) ∧ Below w.heap.size w w' := by
  go_enter Try.func33, Try.ntmps33
  go_upto_region 2 with (fail)
  rw [bw_zero]
  refine gen_world (S := fun W => Row W w.heap.size off ∧ Row W (w.heap.size + 1) off ∧ Below w.heap.size w W) ?_ ?_
  · exact ⟨(Row.new w off).alloc _, Row.new_at (w.alloc _) off (by simp), below_two⟩
  intro W ⟨r0, r1, hb⟩
  have c1 := r1.cell (j := 0) (by omega)
  have z1 := r1.loose 0
  go_wp2_with (first
    | (with_reducible refine load_row (.tmp 3) _ _ (r1.set_same 0 b) rfl rfl rfl ?_)
    | (with_reducible refine store_row (.tmp 2) (.tmp 6) _ _ _ (r0.set_other (by omega) _ _) rfl rfl rfl rfl ?_))
  exact ret_row (p := 2) _ _ ((r0.set_other (by omega) _ _).row_same _) Try.results33 rfl rfl ⟨rfl, below_setRow (hb.setCell (by show w.heap.size ≤ w.heap.size + 1; omega) _) (by omega) _⟩

set_option maxHeartbeats 400000 in
theorem far_any (n : Nat) (f : Nat → Bool) (h2 : n ≤ 64) (w : World) :
    Calls Try.prog 40 #[.int .i64 n, .agg (bw f)] w fun e w' => e = .returned (.int .i64 (min n (Wb.val f 64) : Nat)) ∧ Below w.heap.size w w' := by
  have hv := Wb.val_lt f 64
  go_enter Try.func40, Try.ntmps40
  go_wp2_with (first
    | (with_reducible refine load_row (.tmp 3) _ _ (Row.new w f) rfl rfl rfl ?_))
  refine (num_any f _).mono ?_
  rintro e w1 ⟨rfl, hb⟩
  by_cases hgt : n < Wb.val f 64
  · go_wp2
    go_ret
    exact ⟨ret_int (by omega), (below_one).trans (hb.mono (by simp))⟩
  · go_wp2
    go_ret
    exact ⟨ret_int (by omega), (below_one).trans (hb.mono (by simp))⟩

set_option maxHeartbeats 400000 in
theorem less_any' (n : Nat) (f g : Nat → Bool) (h2 : n ≤ 64) (w : World) :
    Calls Try.prog 34 #[.int .i64 n, .agg (bw f), .agg (bw g)] w fun e w' => e = .returned (.bool (decide (Wb.val f n < Wb.val g n))) ∧ Below w.heap.size w w' := by
  go_enter Try.func34, Try.ntmps34
  go_wp2
  refine gen_world (S := fun W => Row W w.heap.size f ∧ Row W (w.heap.size + 1) g ∧ Below w.heap.size w W) ?_ ?_
  · exact ⟨(Row.new w f).alloc _, Row.new_at (w.alloc _) g (by simp), below_two⟩
  intro W ⟨r0, r1, hb⟩
  go_loopw [7] (fun i V => ∃ k : Nat, k ≤ n ∧ i = .int .i64 ((k : Int) - 1) ∧ (∀ j, k ≤ j → j < n → f j = g j) ∧ Row V w.heap.size f ∧ Row V (w.heap.size + 1) g ∧ Below w.heap.size w V) (fun i _ => (intOf i + 1).toNat)
  case atStart => exact ⟨n, Nat.le_refl _, rfl, fun j h h' => by omega, r0, r1, hb⟩
  case round =>
    clear r0 r1 hb W
    obtain ⟨k, hk, rfl, heq, r0, r1, hb⟩ := hrel
    cases k with
    | zero =>
      have e : Wb.val f n = Wb.val g n := Wb.val_congr n (fun i hi => heq i (Nat.zero_le _) hi)
      have HE := Lib.hid (show false = decide (Wb.val f n < Wb.val g n) by rw [e]; simp)
      clear e heq
      go_wp2
      go_ret
      exact ⟨by rw [← HE.out]; rfl, hb⟩
    | succ k =>
      have c0 := r0.cell (j := k) (by omega)
      have c1 := r1.cell (j := k) (by omega)
      have HQ := Lib.hid heq
      clear heq
      have e1 : ((k + 1 : Nat) : Int) - 1 = k := by omega
      rw [e1]
      clear e1
      by_cases hfg : f k = g k
      · have hn : (f k == g k) = true := by simp [hfg]
        have HF := Lib.hid (show ∀ j, k ≤ j → j < n → f j = g j from fun j h h' => by
          by_cases e : j = k
          · subst e; exact hfg
          · exact HQ.out j (by omega) h')
        clear hfg
        go_wp2
        go_quiet (fail)
        go_wp2
        go_roundw
        case rel => exact ⟨k, by omega, rfl, HF.out, r0.drewN _, r1.drewN _, below_drewN hb _⟩
        case measure => (simp [intOf]; try omega)
      · have hn : (f k == g k) = false := by simpa using hfg
        have HV := Lib.hid (Wb.val_less f g n k (by omega) (fun j h h' => HQ.out j (by omega) h') hfg)
        clear hfg
        go_wp2
        go_quiet (fail)
        go_wp2
        go_ret
        exact ⟨by rw [← HV.out]; rfl, below_drewN hb _⟩
end Go.Proofs.Ytmdopndlnnapiaa
