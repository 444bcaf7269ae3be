/-
  Contracts of the reference's words: Mul, moved.
-/
import Derived.Test.YtmdopndlnnapiaaR3
namespace Go.Proofs.Ytmdopndlnnapiaa
open Go.RowKit

namespace Wb
def mulX (n : Nat) (f : Nat → Bool) : Nat → (Nat → Bool)
  | 0 => f
  | k + 1 => upB n (mulX n f k) false
def mulO (n : Nat) (f g : Nat → Bool) : Nat → (Nat → Bool)
  | 0 => off
  | k + 1 => if g k then addB n (mulO n f g k) (mulX n f k) false else mulO n f g k
end Wb

set_option maxHeartbeats 1000000 in
theorem mul_any (n : Nat) (f g : Nat → Bool) (h1 : 1 ≤ n) (h2 : n ≤ 64) (w : World) :
    Calls Try.prog 30 #[.int .i64 n, .agg (bw f), .agg (bw g)] w fun e w' => e = .returned (.agg (bw (Wb.mulO n f g n))) ∧ Below w.heap.size w w' := by
  go_enter Try.func30, Try.ntmps30
  go_wp2
  rw [bw_zero]
  refine gen_world (S := fun W => Row W w.heap.size f ∧ Row W (w.heap.size + 1) g ∧ Row W (w.heap.size + 1 + 1) off ∧ Row W (w.heap.size + 1 + 1 + 1) off ∧ Below w.heap.size w W) ?_ ?_
  · exact ⟨(((Row.new w f).alloc _).alloc _).alloc _, ((Row.new_at (w.alloc _) g (by simp)).alloc _).alloc _, (Row.new_at ((w.alloc _).alloc _) off (by simp)).alloc _, Row.new_at (((w.alloc _).alloc _).alloc _) off (by simp), below_four⟩
  intro W ⟨r0, r1, r2, r3, hb⟩
  go_loopw [8] (fun i V => ∃ k : Nat, k ≤ n ∧ i = .int .i64 k ∧ Row V w.heap.size (Wb.mulX n f k) ∧ Row V (w.heap.size + 1) g ∧ Row V (w.heap.size + 1 + 1) off ∧ Row V (w.heap.size + 1 + 1 + 1) (Wb.mulO n f g k) ∧ Below w.heap.size w V) (fun i _ => n - (intOf i).toNat)
  case atStart => exact ⟨0, Nat.zero_le _, rfl, r0, r1, r2, r3, hb⟩
  case round =>
    clear r0 r1 r2 r3 hb W
    obtain ⟨k, hk, rfl, r0, r1, r2, r3, hb⟩ := hrel
    by_cases hlt : k < n
    · have c1 := r1.cell (j := k) (by omega)
      have hx : Wb.mulX n f (k + 1) = Wb.upB n (Wb.mulX n f k) false := rfl
      have ho : Wb.mulO n f g (k + 1) = if g k then Wb.addB n (Wb.mulO n f g k) (Wb.mulX n f k) false else Wb.mulO n f g k := rfl
      cases hg : g k
      · rw [hg] at c1 ho
        have HX := Lib.hid hx
        have HO := Lib.hid (show Wb.mulO n f g (k + 1) = Wb.mulO n f g k from ho)
        clear hx ho hg
        go_wp2_with (first
          | (with_reducible refine load_row (.tmp 4) _ _ r0 rfl rfl rfl ?_)
          | fail)
        refine (up_any n _ _ h1 h2 _).mono ?_
        rintro e w1 ⟨rfl, hb1⟩
        go_wp2_with (first
          | (with_reducible refine store_row (.tmp 4) (.tmp 23) _ _ _ (r0.below hb1 r0.lt) rfl rfl rfl rfl ?_)
          | fail)
        go_roundw
        case rel => exact ⟨k + 1, by omega, by go_num, HX.out ▸ (r0.below hb1 r0.lt).row_same _, (r1.below hb1 r1.lt).row_other (by omega) _, (r2.below hb1 r2.lt).row_other (by omega) _, HO.out ▸ (r3.below hb1 r3.lt).row_other (by omega) _, below_setRow (hb.trans (hb1.mono (by have := hb.size; omega))) (Nat.le_refl _) _⟩
        case measure => (simp [intOf]; try omega)
      · rw [hg] at c1 ho
        have HX := Lib.hid hx
        have HO := Lib.hid (show Wb.mulO n f g (k + 1) = Wb.addB n (Wb.mulO n f g k) (Wb.mulX n f k) false from ho)
        clear hx ho hg
        go_wp2_with (first
          | (with_reducible refine load_row (.tmp 4) _ _ r0 rfl rfl rfl ?_)
          | (with_reducible refine load_row (.tmp 7) _ _ r3 rfl rfl rfl ?_)
          | fail)
        refine (add_any n _ _ _ h2 _).mono ?_
        rintro e w1 ⟨rfl, hb1⟩
        have q0 := (r0.below hb1 r0.lt).row_other (k := w.heap.size + 1 + 1 + 1) (by omega) (bw (Wb.addB n (Wb.mulO n f g k) (Wb.mulX n f k) false))
        have q1 := (r1.below hb1 r1.lt).row_other (k := w.heap.size + 1 + 1 + 1) (by omega) (bw (Wb.addB n (Wb.mulO n f g k) (Wb.mulX n f k) false))
        have q2 := (r2.below hb1 r2.lt).row_other (k := w.heap.size + 1 + 1 + 1) (by omega) (bw (Wb.addB n (Wb.mulO n f g k) (Wb.mulX n f k) false))
        have q3 := (r3.below hb1 r3.lt).row_same (Wb.addB n (Wb.mulO n f g k) (Wb.mulX n f k) false)
        have hq : Below w.heap.size w (w1.setRow (w.heap.size + 1 + 1 + 1) (bw (Wb.addB n (Wb.mulO n f g k) (Wb.mulX n f k) false))) := below_setRow (hb.trans (hb1.mono (by have := hb.size; omega))) (by omega) _
        have r3' := r3.below hb1 r3.lt
        clear r0 r1 r2 r3 hb hb1
        go_wp2_with (first
          | (with_reducible refine store_row (.tmp 7) (.tmp 20) _ _ _ r3' rfl rfl rfl rfl ?_)
          | (with_reducible refine load_row (.tmp 4) _ _ q0 rfl rfl rfl ?_)
          | fail)
        refine (up_any n _ _ h1 h2 _).mono ?_
        rintro e w2 ⟨rfl, hb2⟩
        go_wp2_with (first
          | (with_reducible refine store_row (.tmp 4) (.tmp 23) _ _ _ (q0.below hb2 q0.lt) rfl rfl rfl rfl ?_)
          | fail)
        go_roundw
        case rel => exact ⟨k + 1, by omega, by go_num, HX.out ▸ (q0.below hb2 q0.lt).row_same _, (q1.below hb2 q1.lt).row_other (by omega) _, (q2.below hb2 q2.lt).row_other (by omega) _, HO.out ▸ (q3.below hb2 q3.lt).row_other (by omega) _, below_setRow (hq.trans (hb2.mono (by have := hq.size; omega))) (Nat.le_refl _) _⟩
        case measure => (simp [intOf]; try omega)
    · obtain rfl : k = n := by omega
      go_wp2_with (first
        | (with_reducible refine load_row (.tmp 7) _ _ r3 rfl rfl rfl ?_)
        | (with_reducible refine store_row (.tmp 6) (.tmp 24) _ _ _ r2 rfl rfl rfl rfl ?_))
      exact ret_row (p := 6) _ _ (r2.row_same _) Try.results30 rfl rfl ⟨rfl, below_setRow hb (by omega) _⟩

namespace Wb
def movU (n : Nat) (f : Nat → Bool) : Nat → (Nat → Bool)
  | 0 => f
  | k + 1 => upB n (movU n f k) false
def movD (n : Nat) (f : Nat → Bool) (b : Bool) : Nat → (Nat → Bool)
  | 0 => f
  | k + 1 => downB n (movD n f b k) b
end Wb

set_option maxHeartbeats 1000000 in
theorem movedU_any (n : Nat) (f g : Nat → Bool) (h1 : 1 ≤ n) (h2 : n ≤ 64) (w : World) :
    Calls Try.prog 32 #[.int .i64 16, .int .i64 n, .agg (bw f), .agg (bw g)] w fun e w' => e = .returned (.agg (bw (Wb.movU n f (min n (Wb.val g 64))))) ∧ Below w.heap.size w w' := by
  obtain ⟨m, hM⟩ : ∃ m, min n (Wb.val g 64) = m := ⟨_, rfl⟩
  rw [hM]
  have hm : m ≤ 64 := by omega
  have HM := Lib.hid hM
  clear hM
  go_enter Try.func32, Try.ntmps32
  go_wp2
  rw [bw_zero]
  refine gen_world (S := fun W => Row W w.heap.size f ∧ Row W (w.heap.size + 1) g ∧ Row W (w.heap.size + 1 + 1) off ∧ Below w.heap.size w W) ?_ ?_
  · exact ⟨((Row.new w f).alloc _).alloc _, (Row.new_at (w.alloc _) g (by simp)).alloc _, Row.new_at ((w.alloc _).alloc _) off (by simp), below_three⟩
  intro W ⟨r0, r1, r2, hb⟩
  go_loopw [10] (fun i V => ∃ k : Nat, k ≤ m ∧ i = .int .i64 k ∧ Row V w.heap.size (Wb.movU n f k) ∧ Row V (w.heap.size + 1) g ∧ Row V (w.heap.size + 1 + 1) off ∧ Below w.heap.size w V) (fun i _ => m - (intOf i).toNat)
  case atStart => exact ⟨0, Nat.zero_le _, rfl, r0, r1, r2, hb⟩
  case round =>
    clear r0 r1 r2 hb W
    obtain ⟨k, hk, rfl, r0, r1, r2, hb⟩ := hrel
    go_wp2_with (first
      | (with_reducible refine load_row (.tmp 7) _ _ r1 rfl rfl rfl ?_)
      | fail)
    refine (far_any n g h2 _).mono ?_
    rintro e w1 ⟨rfl, hb1⟩
    have q0 := r0.below hb1 r0.lt
    have q1 := r1.below hb1 r1.lt
    have q2 := r2.below hb1 r2.lt
    have hq : Below w.heap.size w w1 := hb.trans (hb1.mono (by have := hb.size; omega))
    clear r0 r1 r2 hb hb1
    rw [HM.out]
    by_cases hlt : k < m
    · have HX := Lib.hid (show Wb.movU n f (k + 1) = Wb.upB n (Wb.movU n f k) false from rfl)
      go_wp2_with (first
        | (with_reducible refine load_row (.tmp 6) _ _ q0 rfl rfl rfl ?_)
        | fail)
      refine (up_any n _ _ h1 h2 _).mono ?_
      rintro e w2 ⟨rfl, hb2⟩
      go_wp2_with (first
        | (with_reducible refine store_row (.tmp 6) (.tmp 30) _ _ _ (q0.below hb2 q0.lt) rfl rfl rfl rfl ?_)
        | fail)
      go_roundw
      case rel => exact ⟨k + 1, by omega, by go_num, HX.out ▸ (q0.below hb2 q0.lt).row_same _, (q1.below hb2 q1.lt).row_other (by omega) _, (q2.below hb2 q2.lt).row_other (by omega) _, below_setRow (hq.trans (hb2.mono (by have := hq.size; omega))) (Nat.le_refl _) _⟩
      case measure => (simp [intOf]; try omega)
    · obtain rfl : k = m := by omega
      go_wp2_with (first
        | (with_reducible refine load_row (.tmp 6) _ _ q0 rfl rfl rfl ?_)
        | (with_reducible refine store_row (.tmp 8) (.tmp 35) _ _ _ q2 rfl rfl rfl rfl ?_))
      exact ret_row (p := 8) _ _ (q2.row_same _) Try.results32 rfl rfl ⟨rfl, below_setRow hq (by omega) _⟩

set_option maxHeartbeats 1000000 in
theorem movedR_any (n : Nat) (f g : Nat → Bool) (h1 : 1 ≤ n) (h2 : n ≤ 64) (w : World) :
    Calls Try.prog 32 #[.int .i64 17, .int .i64 n, .agg (bw f), .agg (bw g)] w fun e w' => e = .returned (.agg (bw (Wb.movD n f false (min n (Wb.val g 64))))) ∧ Below w.heap.size w w' := by
  obtain ⟨m, hM⟩ : ∃ m, min n (Wb.val g 64) = m := ⟨_, rfl⟩
  rw [hM]
  have hm : m ≤ 64 := by omega
  have HM := Lib.hid hM
  clear hM
  go_enter Try.func32, Try.ntmps32
  go_wp2
  rw [bw_zero]
  refine gen_world (S := fun W => Row W w.heap.size f ∧ Row W (w.heap.size + 1) g ∧ Row W (w.heap.size + 1 + 1) off ∧ Below w.heap.size w W) ?_ ?_
  · exact ⟨((Row.new w f).alloc _).alloc _, (Row.new_at (w.alloc _) g (by simp)).alloc _, Row.new_at ((w.alloc _).alloc _) off (by simp), below_three⟩
  intro W ⟨r0, r1, r2, hb⟩
  go_loopw [10] (fun i V => ∃ k : Nat, k ≤ m ∧ i = .int .i64 k ∧ Row V w.heap.size (Wb.movD n f false k) ∧ Row V (w.heap.size + 1) g ∧ Row V (w.heap.size + 1 + 1) off ∧ Below w.heap.size w V) (fun i _ => m - (intOf i).toNat)
  case atStart => exact ⟨0, Nat.zero_le _, rfl, r0, r1, r2, hb⟩
  case round =>
    clear r0 r1 r2 hb W
    obtain ⟨k, hk, rfl, r0, r1, r2, hb⟩ := hrel
    go_wp2_with (first
      | (with_reducible refine load_row (.tmp 7) _ _ r1 rfl rfl rfl ?_)
      | fail)
    refine (far_any n g h2 _).mono ?_
    rintro e w1 ⟨rfl, hb1⟩
    have q0 := r0.below hb1 r0.lt
    have q1 := r1.below hb1 r1.lt
    have q2 := r2.below hb1 r2.lt
    have hq : Below w.heap.size w w1 := hb.trans (hb1.mono (by have := hb.size; omega))
    clear r0 r1 r2 hb hb1
    rw [HM.out]
    by_cases hlt : k < m
    · have HX := Lib.hid (show Wb.movD n f false (k + 1) = Wb.downB n (Wb.movD n f false k) false from rfl)
      go_wp2_with (first
        | (with_reducible refine load_row (.tmp 6) _ _ q0 rfl rfl rfl ?_)
        | fail)
      refine (down_any n _ _ h1 h2 _).mono ?_
      rintro e w2 ⟨rfl, hb2⟩
      go_wp2_with (first
        | (with_reducible refine store_row (.tmp 6) (.tmp 34) _ _ _ (q0.below hb2 q0.lt) rfl rfl rfl rfl ?_)
        | fail)
      go_roundw
      case rel => exact ⟨k + 1, by omega, by go_num, HX.out ▸ (q0.below hb2 q0.lt).row_same _, (q1.below hb2 q1.lt).row_other (by omega) _, (q2.below hb2 q2.lt).row_other (by omega) _, below_setRow (hq.trans (hb2.mono (by have := hq.size; omega))) (Nat.le_refl _) _⟩
      case measure => (simp [intOf]; try omega)
    · obtain rfl : k = m := by omega
      go_wp2_with (first
        | (with_reducible refine load_row (.tmp 6) _ _ q0 rfl rfl rfl ?_)
        | (with_reducible refine store_row (.tmp 8) (.tmp 35) _ _ _ q2 rfl rfl rfl rfl ?_))
      exact ret_row (p := 8) _ _ (q2.row_same _) Try.results32 rfl rfl ⟨rfl, below_setRow hq (by omega) _⟩
set_option maxHeartbeats 1000000 in
theorem movedA_any (n : Nat) (f g : Nat → Bool) (h1 : 1 ≤ n) (h2 : n ≤ 64) (w : World) :
    Calls Try.prog 32 #[.int .i64 18, .int .i64 n, .agg (bw f), .agg (bw g)] w fun e w' => e = .returned (.agg (bw (Wb.movD n f (f (n - 1)) (min n (Wb.val g 64))))) ∧ Below w.heap.size w w' := by
  obtain ⟨m, hM⟩ : ∃ m, min n (Wb.val g 64) = m := ⟨_, rfl⟩
  rw [hM]
  have hm : m ≤ 64 := by omega
  have HM := Lib.hid hM
  obtain ⟨b, hB⟩ : ∃ b, f (n - 1) = b := ⟨_, rfl⟩
  rw [hB]
  have HB := Lib.hid hB
  clear hB
  clear hM
  go_enter Try.func32, Try.ntmps32
  go_upto_region 1 with (fail)
  rw [bw_zero]
  refine gen_world (S := fun W => Row W w.heap.size f ∧ Row W (w.heap.size + 1) g ∧ Row W (w.heap.size + 1 + 1) off ∧ Below w.heap.size w W) ?_ ?_
  · exact ⟨((Row.new w f).alloc _).alloc _, (Row.new_at (w.alloc _) g (by simp)).alloc _, Row.new_at ((w.alloc _).alloc _) off (by simp), below_three⟩
  intro W ⟨r0, r1, r2, hb⟩
  have cc := r0.cell (j := n - 1) (by omega)
  have hc1 : ((n : Int) - 1).toNat = n - 1 := by omega
  have hc2 : 0 ≤ (n : Int) - 1 := by omega
  have hc3 : (n : Int) - 1 < 64 := by omega
  rw [HB.out] at cc
  go_wp2
  clear cc hc1 hc2 hc3
  go_loopw [10] (fun i V => ∃ k : Nat, k ≤ m ∧ i = .int .i64 k ∧ Row V w.heap.size (Wb.movD n f b k) ∧ Row V (w.heap.size + 1) g ∧ Row V (w.heap.size + 1 + 1) off ∧ Below w.heap.size w V) (fun i _ => m - (intOf i).toNat)
  case atStart => exact ⟨0, Nat.zero_le _, rfl, r0, r1, r2, hb⟩
  case round =>
    clear r0 r1 r2 hb W
    obtain ⟨k, hk, rfl, r0, r1, r2, hb⟩ := hrel
    go_wp2_with (first
      | (with_reducible refine load_row (.tmp 7) _ _ r1 rfl rfl rfl ?_)
      | fail)
    refine (far_any n g h2 _).mono ?_
    rintro e w1 ⟨rfl, hb1⟩
    have q0 := r0.below hb1 r0.lt
    have q1 := r1.below hb1 r1.lt
    have q2 := r2.below hb1 r2.lt
    have hq : Below w.heap.size w w1 := hb.trans (hb1.mono (by have := hb.size; omega))
    clear r0 r1 r2 hb hb1
    rw [HM.out]
    by_cases hlt : k < m
    · have HX := Lib.hid (show Wb.movD n f b (k + 1) = Wb.downB n (Wb.movD n f b k) b from rfl)
      go_wp2_with (first
        | (with_reducible refine load_row (.tmp 6) _ _ q0 rfl rfl rfl ?_)
        | fail)
      refine (down_any n _ _ h1 h2 _).mono ?_
      rintro e w2 ⟨rfl, hb2⟩
      go_wp2_with (first
        | (with_reducible refine store_row (.tmp 6) (.tmp 34) _ _ _ (q0.below hb2 q0.lt) rfl rfl rfl rfl ?_)
        | fail)
      go_roundw
      case rel => exact ⟨k + 1, by omega, by go_num, HX.out ▸ (q0.below hb2 q0.lt).row_same _, (q1.below hb2 q1.lt).row_other (by omega) _, (q2.below hb2 q2.lt).row_other (by omega) _, below_setRow (hq.trans (hb2.mono (by have := hq.size; omega))) (Nat.le_refl _) _⟩
      case measure => (simp [intOf]; try omega)
    · obtain rfl : k = m := by omega
      go_wp2_with (first
        | (with_reducible refine load_row (.tmp 6) _ _ q0 rfl rfl rfl ?_)
        | (with_reducible refine store_row (.tmp 8) (.tmp 35) _ _ _ q2 rfl rfl rfl rfl ?_))
      exact ret_row (p := 8) _ _ (q2.row_same _) Try.results32 rfl rfl ⟨rfl, below_setRow hq (by omega) _⟩
end Go.Proofs.Ytmdopndlnnapiaa
