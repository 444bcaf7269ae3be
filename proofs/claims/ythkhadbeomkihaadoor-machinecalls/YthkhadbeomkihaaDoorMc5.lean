/-
  Contracts of load, save and what they go through.
-/
import Derived.Test.YthkhadbeomkihaaDoorMc4
import Derived.Laws.Bits64
namespace Go.Proofs.YthkhadbeomkihaaDoor
set_option maxRecDepth 100000
open Go.RowKit

theorem or_add (x z : Int) (j : Nat) (hj : j < 8) (x0 : 0 ≤ x) (x1 : x < 256 ^ j) (z0 : 0 ≤ z) (z1 : z ≤ 255) :
    bits BinOp.or IntKind.u64 x (IntKind.u64.wrap (IntKind.u64.wrap z * 2 ^ (8 * j))) = x + z * 256 ^ j := by
  obtain ⟨a, rfl⟩ := Int.eq_ofNat_of_zero_le x0
  obtain ⟨b, rfl⟩ := Int.eq_ofNat_of_zero_le z0
  have hb : b ≤ 255 := by omega
  have e1 : IntKind.u64.wrap (b : Int) = b := by rw [IntKind.wrap_u64]; omega
  have hp : (2 : Nat) ^ (8 * j) = 256 ^ j := by rw [Nat.pow_mul]
  have h256 : 256 ^ j ≤ 256 ^ 7 := Nat.pow_le_pow_right (by decide) (by omega)
  have ha : a < 256 ^ j := by exact_mod_cast x1
  have hm : b * 256 ^ j < 256 ^ 8 := by
    calc b * 256 ^ j ≤ 255 * 256 ^ 7 := Nat.mul_le_mul hb h256
      _ < 256 ^ 8 := by decide
  have e2 : IntKind.u64.wrap ((b : Int) * 2 ^ (8 * j)) = ((b * 256 ^ j : Nat) : Int) := by
    rw [IntKind.wrap_u64]
    have : ((b : Int) * 2 ^ (8 * j)) = ((b * 256 ^ j : Nat) : Int) := by rw [← hp]; push_cast; rfl
    rw [this]
    omega
  rw [e1, e2, bits_or_u64_nat _ _ (by omega) (by omega)]
  have h3 : a ||| b * 256 ^ j = b * 256 ^ j + a := by
    have := Nat.shiftLeft_add_eq_or_of_lt (b := a) (i := 8 * j) (by rw [hp]; exact ha) b
    rw [Nat.shiftLeft_eq, hp] at this
    rw [this, Nat.or_comm]
  rw [h3]
  push_cast
  omega

set_option maxRecDepth 20000 in
set_option maxHeartbeats 1600000 in
theorem load_clo (g X R mb cap n : Nat) (k j : Nat) (x z : Int) (w : World) (cx : w.cell? ⟨X, 0, none⟩ = some (.int .u64 x)) (cr : w.cell? ⟨R, 0, none⟩ = some (.pointer (some ⟨g, 0, none⟩)))
    (cm : w.cell? ⟨g, 16, none⟩ = some (.slice (some ⟨mb, 0, none⟩) n cap)) (hk : k < n) (hn : n ≤ maxLen) (cz : w.cell? ⟨mb, k, none⟩ = some (.int .u8 z)) (fx : w.frozen? ⟨X, 0, none⟩ = false) (hj : j < 8) (x0 : 0 ≤ x) (x1 : x < 256 ^ j) (z0 : 0 ≤ z) (z1 : z ≤ 255) :
    Calls Tryd.prog 92 #[.int .u64 k, .int .i64 (8 * j), .pointer (some ⟨X, 0, none⟩), .pointer (some ⟨R, 0, none⟩)] w fun e w' => e = .returned (.tuple #[]) ∧ w' = (w.setCell ⟨X, 0, none⟩ (.int .u64 (x + z * 256 ^ j))).drew := by
  unfold maxLen at hn
  have hk' : (k : Int) < n := by omega
  have hj' : ¬ (8 * (j : Int)) < 0 := by omega
  have ho := Lib.hid (or_add x z j hj x0 x1 z0 z1)
  clear x0 x1 z0 z1
  go_enter Tryd.func92, Tryd.ntmps92
  go_wp2
  refine still_tail 13 (by kernel_rfl) (by kernel_rfl) ?_
  simp only [List.take_succ_cons, List.take_zero, List.drop_succ_cons, List.drop_zero]
  repeat still_step
  refine wpStill_nil ?_
  go_wp2
  go_end0
  exact ⟨rfl, by rw [ho.out]⟩

set_option maxRecDepth 20000 in
set_option maxHeartbeats 1600000 in
theorem save_clo (g X R mb cap n : Nat) (k j : Nat) (x z : Int) (w : World) (cx : w.cell? ⟨X, 0, none⟩ = some (.int .u64 x)) (cr : w.cell? ⟨R, 0, none⟩ = some (.pointer (some ⟨g, 0, none⟩)))
    (cm : w.cell? ⟨g, 16, none⟩ = some (.slice (some ⟨mb, 0, none⟩) n cap)) (hk : k < n) (hn : n ≤ maxLen) (cz : w.cell? ⟨mb, k, none⟩ = some (.int .u8 z)) (fx : w.frozen? ⟨mb, k, none⟩ = false) (hj : j < 8) (x0 : 0 ≤ x) (x1 : x < 18446744073709551616) :
    Calls Tryd.prog 93 #[.int .u64 k, .int .i64 (8 * j), .pointer (some ⟨X, 0, none⟩), .pointer (some ⟨R, 0, none⟩)] w fun e w' => e = .returned (.tuple #[]) ∧ w' = (w.setCell ⟨mb, k, none⟩ (.int .u8 (x / 256 ^ j % 256))).drew := by
  unfold maxLen at hn
  have hk' : (k : Int) < n := by omega
  have hj' : ¬ (8 * (j : Int)) < 0 := by omega
  have hp : (2 : Int) ^ (8 * j) = 256 ^ j := by rw [Int.pow_mul]; rfl
  have HP := Lib.hid hp
  clear x0 x1 hp
  go_enter Tryd.func93, Tryd.ntmps93
  go_wp2
  refine still_tail 11 (by kernel_rfl) (by kernel_rfl) ?_
  simp only [List.take_succ_cons, List.take_zero, List.drop_succ_cons, List.drop_zero]
  repeat still_step
  refine wpStill_nil ?_
  go_wp2
  go_end0
  exact ⟨rfl, by rw [HP.out]⟩

set_option maxRecDepth 20000 in
set_option maxHeartbeats 3200000 in
theorem through_out (g b : Nat) (op a c m x : Int) (V : Value) (cs : Array Value) (w : World) (A : Option Addr) (n cap : Nat) (hb : RnB w g cs) (hl : b < 8) (hx : cs[8 + b]? = some (.int .u64 x)) (hm : cs[16]? = some (.slice A n cap)) (hn : n ≤ maxLen) (c0 : 0 ≤ c) (c1 : c ≤ 8) (h : ¬ (x + m) % 18446744073709551616 + c ≤ n) :
    Calls Tryd.prog 91 #[.pointer (some ⟨g, 0, none⟩), .agg #[.int .i64 op, .int .i64 a, .int .i64 b, .int .i64 c, .int .u64 m], V] w fun e w' => e = .returned (.bool false) ∧ Below w.heap.size w w' := by
  unfold maxLen at hn
  have e1 : IntKind.u64.wrap (n : Int) = n := by rw [IntKind.wrap_u64]; omega
  have e2 : IntKind.u64.wrap (x + m) = (x + m) % 18446744073709551616 := IntKind.wrap_u64 _
  have e3 : IntKind.u64.wrap c = c := by rw [IntKind.wrap_u64]; omega
  have E2 := Lib.hid e2
  clear e2
  have hf1 : (w.alloc (.cells #[.int .i64 op, .int .i64 a, .int .i64 b, .int .i64 c, .int .u64 m] 59)).cell? ⟨w.heap.size, 0, none⟩ = some (.int .i64 op) ∧ (w.alloc (.cells #[.int .i64 op, .int .i64 a, .int .i64 b, .int .i64 c, .int .u64 m] 59)).cell? ⟨w.heap.size, 1, none⟩ = some (.int .i64 a) ∧ (w.alloc (.cells #[.int .i64 op, .int .i64 a, .int .i64 b, .int .i64 c, .int .u64 m] 59)).cell? ⟨w.heap.size, 2, none⟩ = some (.int .i64 b) ∧ (w.alloc (.cells #[.int .i64 op, .int .i64 a, .int .i64 b, .int .i64 c, .int .u64 m] 59)).cell? ⟨w.heap.size, 3, none⟩ = some (.int .i64 c) ∧ (w.alloc (.cells #[.int .i64 op, .int .i64 a, .int .i64 b, .int .i64 c, .int .u64 m] 59)).cell? ⟨w.heap.size, 4, none⟩ = some (.int .u64 m) := by simp
  have h16 : (w.alloc (.cells #[.int .i64 op, .int .i64 a, .int .i64 b, .int .i64 c, .int .u64 m] 59)).cell? ⟨g, 16, none⟩ = some (.slice A n cap) := hb.cA hm _
  have hR : RnB (w.alloc (.cells #[.int .i64 op, .int .i64 a, .int .i64 b, .int .i64 c, .int .u64 m] 59)) g cs := hb.box _
  have hB : Below w.heap.size w (w.alloc (.cells #[.int .i64 op, .int .i64 a, .int .i64 b, .int .i64 c, .int .u64 m] 59)) := Below.box _ _
  have hz : (w.alloc (.cells #[.int .i64 op, .int .i64 a, .int .i64 b, .int .i64 c, .int .u64 m] 59)).heap.size = w.heap.size + 1 := by simp
  have hg : g < (w.alloc (.cells #[.int .i64 op, .int .i64 a, .int .i64 b, .int .i64 c, .int .u64 m] 59)).heap.size := hR.lt
  have HF := Lib.hid hf1
  have H16 := Lib.hid h16
  have HR := Lib.hid hR
  have HB := Lib.hid hB
  have HZ := Lib.hid hz
  have HG := Lib.hid hg
  have HX := Lib.hid hx
  clear hf1 h16 hR hB hz hg hb hm hx
  go_enter Tryd.func91, Tryd.ntmps91
  go_wp2_with fail
  generalize w.alloc (.cells #[.int .i64 op, .int .i64 a, .int .i64 b, .int .i64 c, .int .u64 m] 59) = w1 at *
  refine wp_region_held_drew (S := fun W => Below w1.heap.size w1 W) (by kernel_rfl) (Below.refl _ _).drew (fun hHeld => ?_)
  refine wpAnyH_take (i := 0) (v := .pointer (some ⟨g, 0, none⟩)) rfl (by kernel_rfl) (by kernel_rfl) (by kernel_rfl) (fun _ _ _ h => h) (Or.inl ⟨by rfl, fun w9 hSw => ?_⟩) hHeld ?_
  · (try dsimp only at hSw)
    go_simp
  try simp only [List.getElem_toArray, List.getElem_cons_succ, List.getElem_cons_zero, Act.put, List.setIfInBounds_toArray, List.set_cons_zero, List.set_cons_succ]
  refine wpAnyH_take (i := 1) (v := .agg #[.int .i64 op, .int .i64 a, .int .i64 b, .int .i64 c, .int .u64 m]) rfl (by kernel_rfl) (by kernel_rfl) (by kernel_rfl) (fun _ _ _ h => h) (Or.inl ⟨by rfl, fun w9 hSw => ?_⟩) hHeld ?_
  · (try dsimp only at hSw)
    have q0 := cells_below hSw HF.out.1 (by simp [HZ.out])
    have q1 := cells_below hSw HF.out.2.1 (by simp [HZ.out])
    have q2 := cells_below hSw HF.out.2.2.1 (by simp [HZ.out])
    have q3 := cells_below hSw HF.out.2.2.2.1 (by simp [HZ.out])
    have q4 := cells_below hSw HF.out.2.2.2.2 (by simp [HZ.out])
    go_simp
  try simp only [List.getElem_toArray, List.getElem_cons_succ, List.getElem_cons_zero, Act.put, List.setIfInBounds_toArray, List.set_cons_zero, List.set_cons_succ]
  refine wpAnyH_take (i := 3) (v := .pointer (some ⟨g, 0, none⟩)) rfl (by kernel_rfl) (by kernel_rfl) (by kernel_rfl) (fun _ _ _ h => h) (Or.inl ⟨by rfl, fun w9 hSw => ?_⟩) hHeld ?_
  · (try dsimp only at hSw)
    go_simp
  try simp only [List.getElem_toArray, List.getElem_cons_succ, List.getElem_cons_zero, Act.put, List.setIfInBounds_toArray, List.set_cons_zero, List.set_cons_succ]
  refine wpAnyH_take (i := 4) (v := .pointer (some ⟨g, 0, none⟩)) rfl (by kernel_rfl) (by kernel_rfl) (by kernel_rfl) (fun _ _ _ h => h) (Or.inl ⟨by rfl, fun w9 hSw => ?_⟩) hHeld ?_
  · (try dsimp only at hSw)
    go_simp
  try simp only [List.getElem_toArray, List.getElem_cons_succ, List.getElem_cons_zero, Act.put, List.setIfInBounds_toArray, List.set_cons_zero, List.set_cons_succ]
  refine wpAnyH_take (i := 5) (v := .pointer (some ⟨g, 7, none⟩)) rfl (by kernel_rfl) (by kernel_rfl) (by kernel_rfl) (fun _ _ _ h => h) (Or.inl ⟨by rfl, fun w9 hSw => ?_⟩) hHeld ?_
  · (try dsimp only at hSw)
    go_simp
  try simp only [List.getElem_toArray, List.getElem_cons_succ, List.getElem_cons_zero, Act.put, List.setIfInBounds_toArray, List.set_cons_zero, List.set_cons_succ]
  refine wpAnyH_take (i := 6) (v := .pointer (some ⟨g, 16, none⟩)) rfl (by kernel_rfl) (by kernel_rfl) (by kernel_rfl) (fun _ _ _ h => h) (Or.inl ⟨by rfl, fun w9 hSw => ?_⟩) hHeld ?_
  · (try dsimp only at hSw)
    go_simp
  try simp only [List.getElem_toArray, List.getElem_cons_succ, List.getElem_cons_zero, Act.put, List.setIfInBounds_toArray, List.set_cons_zero, List.set_cons_succ]
  refine wpAnyH_take (i := 7) (v := .slice A n cap) rfl (by kernel_rfl) (by kernel_rfl) (by kernel_rfl) (fun _ _ _ h => h) (Or.inl ⟨by rfl, fun w9 hSw => ?_⟩) hHeld ?_
  · (try dsimp only at hSw)
    have q16 := cells_below hSw H16.out HG.out
    go_simp
  try simp only [List.getElem_toArray, List.getElem_cons_succ, List.getElem_cons_zero, Act.put, List.setIfInBounds_toArray, List.set_cons_zero, List.set_cons_succ]
  refine wpAnyH_take (i := 8) (v := .int .i64 n) rfl (by kernel_rfl) (by kernel_rfl) (by kernel_rfl) (fun _ _ _ h => h) (Or.inl ⟨by rfl, fun w9 hSw => ?_⟩) hHeld ?_
  · (try dsimp only at hSw)
    go_simp
  try simp only [List.getElem_toArray, List.getElem_cons_succ, List.getElem_cons_zero, Act.put, List.setIfInBounds_toArray, List.set_cons_zero, List.set_cons_succ]
  refine wpAnyH_take (i := 9) (v := .int .u64 n) rfl (by kernel_rfl) (by kernel_rfl) (by kernel_rfl) (fun _ _ _ h => h) (Or.inl ⟨by rfl, fun w9 hSw => ?_⟩) hHeld ?_
  · (try dsimp only at hSw)
    go_simp
  try simp only [List.getElem_toArray, List.getElem_cons_succ, List.getElem_cons_zero, Act.put, List.setIfInBounds_toArray, List.set_cons_zero, List.set_cons_succ]
  refine wpAnyH_ready (rs := [2]) (by kernel_rfl) (by simp) ?_
  refine (AllReadyH.cons rfl (fun K hK => ?_) AllReadyH.nil)
  go_simp
  go_at_call 94
  refine (address_any g b op a c m x cs _ HR.out.drew HX.out hl).mono ?_
  rintro e v ⟨rfl, hbv⟩
  refine hK.out _ _ ((Below.refl _ _).drew.trans hbv) (fun hHeld => ?_)
  clear hK K
  try simp only [List.getElem_toArray, List.getElem_cons_succ, List.getElem_cons_zero, Act.put, List.setIfInBounds_toArray, List.set_cons_zero, List.set_cons_succ]
  refine wpAnyH_take (i := 10) (v := .int .u64 (IntKind.u64.wrap (x + m))) rfl (by kernel_rfl) (by kernel_rfl) (by kernel_rfl) (fun _ _ _ h => h) (Or.inl ⟨by rfl, fun w9 hSw => ?_⟩) hHeld ?_
  · (try dsimp only at hSw)
    go_simp
  try simp only [List.getElem_toArray, List.getElem_cons_succ, List.getElem_cons_zero, Act.put, List.setIfInBounds_toArray, List.set_cons_zero, List.set_cons_succ]
  refine wpAnyH_take (i := 11) (v := .int .u64 n) rfl (by kernel_rfl) (by kernel_rfl) (by kernel_rfl) (fun _ _ _ h => h) (Or.inl ⟨by rfl, fun w9 hSw => ?_⟩) hHeld ?_
  · (try dsimp only at hSw)
    go_simp
  try simp only [List.getElem_toArray, List.getElem_cons_succ, List.getElem_cons_zero, Act.put, List.setIfInBounds_toArray, List.set_cons_zero, List.set_cons_succ]
  refine wpAnyH_done (by kernel_rfl) ?_ _
  rw [E2.out]
  have hy0 : 0 ≤ (x + m) % 18446744073709551616 := by omega
  have hy1 : (x + m) % 18446744073709551616 < 18446744073709551616 := by omega
  have hbv' : Below w1.heap.size w1 v := hHeld
  have q3 := cells_below hbv' HF.out.2.2.2.1 (by simp [HZ.out])
  have HH := Lib.hid hbv'
  clear hHeld hbv' hbv
  generalize (x + m) % 18446744073709551616 = y at *
  by_cases hgt : (n : Int) < y
  · go_wp2
    go_ret
    exact ⟨rfl, HB.out.trans (HH.out.mono (by simp [HZ.out]))⟩
  · have e4 : IntKind.u64.wrap ((n : Int) - y) = n - y := by rw [IntKind.wrap_u64]; omega
    have hlt : (n : Int) - y < c := by omega
    go_wp2
    go_ret
    exact ⟨rfl, HB.out.trans (HH.out.mono (by simp [HZ.out]))⟩
end Go.Proofs.YthkhadbeomkihaaDoor
