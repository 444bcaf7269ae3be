/-
  The contract of Get, and of the reference's Raw and Get.
-/
import Derived.Test.YtjadiijjahjjoaaDoorCdW4
namespace Go.Proofs.YtjadiijjahjjoaaDoor
open Go.RowKit
attribute [local go_sem ↓] Go.wp_at_zero Go.wp_at_succ

theorem ret_three {v : Value} {a b c d : Int} (h : a = c) (k : b = d) : Ending.returned (.tuple #[v, .int .i64 a, .int .i64 b]) = .returned (.tuple #[v, .int .i64 c, .int .i64 d]) := by rw [h, k]

set_option maxHeartbeats 400000 in
theorem get_short (A : Option Addr) (len cap : Nat) (w : World) (hl : len < 12) :
    Calls Tryd.prog 59 #[.slice A len cap] w fun e w' =>
      e = .returned (.tuple #[.agg #[.int .i64 0, .int .i64 0, .int .i64 0, .int .i64 0, .int .u64 0], .int .i64 1, .int .i64 len]) ∧ Below w.heap.size w w' := by
  go_enter Tryd.func59, Tryd.ntmps59
  go_wp2
  refine bodyPost_ret (v := .tuple #[.agg #[.int .i64 0, .int .i64 0, .int .i64 0, .int .i64 0, .int .u64 0], .int .i64 1, .int .i64 len]) (by simp [results, Tryd.results59, go_sem]) rfl ⟨rfl, (Below.refl _ _).alloc (Nat.le_refl _) _⟩

set_option maxHeartbeats 400000 in
theorem rget_short (A : Option Addr) (len cap : Nat) (w : World) (hl : len < 12) :
    Calls Tryd.prog 33 #[.slice A len cap] w fun e w' =>
      e = .returned (.tuple #[.agg #[.int .i64 0, .int .i64 0, .int .i64 0, .int .i64 0, .int .u64 0], .int .i64 1, .int .i64 len]) ∧ Below w.heap.size w w' := by
  go_enter Tryd.func33, Tryd.ntmps33
  go_wp2
  refine bodyPost_ret (v := .tuple #[.agg #[.int .i64 0, .int .i64 0, .int .i64 0, .int .i64 0, .int .u64 0], .int .i64 1, .int .i64 len]) (by simp [results, Tryd.results33, go_sem]) rfl ⟨rfl, (Below.refl _ _).alloc (Nat.le_refl _) _⟩

/-- What Get answers of an instruction: it, or its error and the error's place. -/
def Cd.got (op a b c m : Int) : Value := if Cd.bad op a b c m = -1 then .tuple #[.agg #[.int .i64 op, .int .i64 a, .int .i64 b, .int .i64 c, .int .u64 m], .int .i64 0, .int .i64 0]
  else .tuple #[.agg #[.int .i64 0, .int .i64 0, .int .i64 0, .int .i64 0, .int .u64 0], .int .i64 (Cd.er (Cd.bad op a b c m)), .int .i64 (Cd.pl (Cd.bad op a b c m))]

set_option maxHeartbeats 2000000 in
theorem get_core (b off len cap : Nat) (z0 z1 z2 z3 z4 z5 z6 z7 z8 z9 z10 z11 v4 v5 v6 v7 v8 v9 v10 v11 : Int) (w : World) (ho : Ops w) (hl : 12 ≤ len) (hc : len ≤ cap) (hm : cap ≤ 9223372036854775807)
    (b0 : 0 ≤ z0 ∧ z0 ≤ 255) (b1 : 0 ≤ z1 ∧ z1 ≤ 255) (b2 : 0 ≤ z2 ∧ z2 ≤ 255) (b3 : 0 ≤ z3 ∧ z3 ≤ 255)
    (c0 : w.cell? ⟨b, off, none⟩ = some (.int .u8 z0)) (c1 : w.cell? ⟨b, off + 1, none⟩ = some (.int .u8 z1)) (c2 : w.cell? ⟨b, off + 2, none⟩ = some (.int .u8 z2)) (c3 : w.cell? ⟨b, off + 3, none⟩ = some (.int .u8 z3)) (c4 : w.cell? ⟨b, off + 4, none⟩ = some (.int .u8 z4)) (c5 : w.cell? ⟨b, off + 5, none⟩ = some (.int .u8 z5)) (c6 : w.cell? ⟨b, off + 6, none⟩ = some (.int .u8 z6)) (c7 : w.cell? ⟨b, off + 7, none⟩ = some (.int .u8 z7)) (c8 : w.cell? ⟨b, off + 8, none⟩ = some (.int .u8 z8)) (c9 : w.cell? ⟨b, off + 9, none⟩ = some (.int .u8 z9)) (c10 : w.cell? ⟨b, off + 10, none⟩ = some (.int .u8 z10)) (c11 : w.cell? ⟨b, off + 11, none⟩ = some (.int .u8 z11))
    (e4 : bits BinOp.or IntKind.u64 0 (IntKind.u64.wrap z4) = v4) (e5 : bits BinOp.or IntKind.u64 (IntKind.u64.wrap (v4 * 256)) (IntKind.u64.wrap z5) = v5) (e6 : bits BinOp.or IntKind.u64 (IntKind.u64.wrap (v5 * 256)) (IntKind.u64.wrap z6) = v6) (e7 : bits BinOp.or IntKind.u64 (IntKind.u64.wrap (v6 * 256)) (IntKind.u64.wrap z7) = v7) (e8 : bits BinOp.or IntKind.u64 (IntKind.u64.wrap (v7 * 256)) (IntKind.u64.wrap z8) = v8) (e9 : bits BinOp.or IntKind.u64 (IntKind.u64.wrap (v8 * 256)) (IntKind.u64.wrap z9) = v9) (e10 : bits BinOp.or IntKind.u64 (IntKind.u64.wrap (v9 * 256)) (IntKind.u64.wrap z10) = v10) (e11 : bits BinOp.or IntKind.u64 (IntKind.u64.wrap (v10 * 256)) (IntKind.u64.wrap z11) = v11) (hbl : b < w.heap.size) :
    Calls Tryd.prog 59 #[.slice (some ⟨b, off, none⟩) len cap] w fun e w' => e = .returned (Cd.got z0 z1 z2 z3 v11) ∧ Below w.heap.size w w' := by
  have hp := ho.pos
  have l0 : 0 < len := by omega
  have l1 : (1 : Int) < (len : Int) := by omega
  have l2 : (2 : Int) < (len : Int) := by omega
  have l3 : (3 : Int) < (len : Int) := by omega
  have hcc : ¬ cap = 4 := by omega
  have hne : b ≠ w.heap.size := by omega
  have hne1 : b ≠ w.heap.size + 1 := by omega
  have d5 : w.cell? ⟨b, off + 4 + 1, none⟩ = some (.int .u8 z5) := c5
  have d6 : w.cell? ⟨b, off + 4 + 2, none⟩ = some (.int .u8 z6) := c6
  have d7 : w.cell? ⟨b, off + 4 + 3, none⟩ = some (.int .u8 z7) := c7
  have d8 : w.cell? ⟨b, off + 4 + 4, none⟩ = some (.int .u8 z8) := c8
  have d9 : w.cell? ⟨b, off + 4 + 5, none⟩ = some (.int .u8 z9) := c9
  have d10 : w.cell? ⟨b, off + 4 + 6, none⟩ = some (.int .u8 z10) := c10
  have d11 : w.cell? ⟨b, off + 4 + 7, none⟩ = some (.int .u8 z11) := c11
  have bl : Below w.heap.size w ((w.alloc (.cells #[.int .i64 0, .int .i64 0, .int .i64 0, .int .i64 0, .int .u64 0] 43)).alloc (.cells #[.int .i64 z0, .int .i64 z1, .int .i64 z2, .int .i64 z3, .int .u64 v11] 43)).drew := (((Below.refl _ _).alloc (Nat.le_refl _) _).alloc (by simp) _).drew
  have HO := Lib.hid (ho.below bl hp)
  have HL := Lib.hid bl
  clear ho bl
  go_enter Tryd.func59, Tryd.ntmps59
  go_wp2
  go_region_held3 (fun W => W.cell? ⟨b, off, none⟩ = some (.int .u8 z0) ∧ W.cell? ⟨b, off + 1, none⟩ = some (.int .u8 z1) ∧ W.cell? ⟨b, off + 2, none⟩ = some (.int .u8 z2) ∧ W.cell? ⟨b, off + 3, none⟩ = some (.int .u8 z3)) (go_keep) (fail)
  go_wp2
  refine wp_loop_rounds 9 ?_
  rw [rounds_succ]; go_wp2
  rw [rounds_succ]; go_wp2
  rw [rounds_succ]; go_wp2
  rw [rounds_succ]; go_wp2
  rw [rounds_succ]; go_wp2
  rw [rounds_succ]; go_wp2
  rw [rounds_succ]; go_wp2
  rw [rounds_succ]; go_wp2
  rw [rounds_succ]; go_wp2_with fail
  refine (fault_any _ _ _ _ _ _ HO.out).mono ?_
  rintro e v ⟨rfl, hbv⟩
  have hz : w.heap.size + 1 < v.heap.size := by have := hbv.size; simp at this; omega
  have s0 : v.cell? ⟨w.heap.size, 0, none⟩ = some (.int .i64 0) := cells_below hbv (by simp [go_sem]) (by simp; try omega)
  have s1 : v.cell? ⟨w.heap.size, 1, none⟩ = some (.int .i64 0) := cells_below hbv (by simp [go_sem]) (by simp; try omega)
  have s2 : v.cell? ⟨w.heap.size, 2, none⟩ = some (.int .i64 0) := cells_below hbv (by simp [go_sem]) (by simp; try omega)
  have s3 : v.cell? ⟨w.heap.size, 3, none⟩ = some (.int .i64 0) := cells_below hbv (by simp [go_sem]) (by simp; try omega)
  have s4 : v.cell? ⟨w.heap.size, 4, none⟩ = some (.int .u64 0) := cells_below hbv (by simp [go_sem]) (by simp; try omega)
  have t0 : v.cell? ⟨w.heap.size + 1, 0, none⟩ = some (.int .i64 z0) := cells_below hbv (by simp [go_sem]) (by simp; try omega)
  have t1 : v.cell? ⟨w.heap.size + 1, 1, none⟩ = some (.int .i64 z1) := cells_below hbv (by simp [go_sem]) (by simp; try omega)
  have t2 : v.cell? ⟨w.heap.size + 1, 2, none⟩ = some (.int .i64 z2) := cells_below hbv (by simp [go_sem]) (by simp; try omega)
  have t3 : v.cell? ⟨w.heap.size + 1, 3, none⟩ = some (.int .i64 z3) := cells_below hbv (by simp [go_sem]) (by simp; try omega)
  have t4 : v.cell? ⟨w.heap.size + 1, 4, none⟩ = some (.int .u64 v11) := cells_below hbv (by simp [go_sem]) (by simp; try omega)
  have f0 : v.frozen? ⟨w.heap.size, 0, none⟩ = false := (hbv.frozen (p := ⟨w.heap.size, 0, none⟩) (by simp; try omega)).trans (by simp [go_sem])
  have f1 : v.frozen? ⟨w.heap.size, 1, none⟩ = false := (hbv.frozen (p := ⟨w.heap.size, 1, none⟩) (by simp; try omega)).trans (by simp [go_sem])
  have f2 : v.frozen? ⟨w.heap.size, 2, none⟩ = false := (hbv.frozen (p := ⟨w.heap.size, 2, none⟩) (by simp; try omega)).trans (by simp [go_sem])
  have f3 : v.frozen? ⟨w.heap.size, 3, none⟩ = false := (hbv.frozen (p := ⟨w.heap.size, 3, none⟩) (by simp; try omega)).trans (by simp [go_sem])
  have f4 : v.frozen? ⟨w.heap.size, 4, none⟩ = false := (hbv.frozen (p := ⟨w.heap.size, 4, none⟩) (by simp; try omega)).trans (by simp [go_sem])
  have HB := Lib.hid (HL.out.trans (hbv.mono (by simp; omega)))
  clear hbv c0 c1 c2 c3 c4 c5 c6 c7 c8 c9 c10 c11 d5 d6 d7 d8 d9 d10 d11 e4 e5 e6 e7 e8 e9 e10 e11
  by_cases hb : Cd.bad z0 z1 z2 z3 v11 = -1
  · have HR : Hid (Cd.got z0 z1 z2 z3 v11 = .tuple #[.agg #[.int .i64 z0, .int .i64 z1, .int .i64 z2, .int .i64 z3, .int .u64 v11], .int .i64 0, .int .i64 0]) := Lib.hid (by rw [Cd.got, if_pos hb])
    have e0 : Cd.er (Cd.bad z0 z1 z2 z3 v11) = 0 := by rw [hb]; rfl
    clear hb
    go_wp2
    refine bodyPost_ret (v := .tuple #[.agg #[.int .i64 z0, .int .i64 z1, .int .i64 z2, .int .i64 z3, .int .u64 v11], .int .i64 0, .int .i64 0]) (by simp [results, Tryd.results59, go_sem, *]) rfl ⟨by rw [HR.out], ?_⟩
    exact ((((HB.out.setCell (by simp) _).setCell (by simp) _).setCell (by simp) _).setCell (by simp) _).setCell (by simp) _
  · have HR : Hid (Cd.got z0 z1 z2 z3 v11 = .tuple #[.agg #[.int .i64 0, .int .i64 0, .int .i64 0, .int .i64 0, .int .u64 0], .int .i64 (Cd.er (Cd.bad z0 z1 z2 z3 v11)), .int .i64 (Cd.pl (Cd.bad z0 z1 z2 z3 v11))]) := Lib.hid (by rw [Cd.got, if_neg hb])
    have e0 : (Cd.er (Cd.bad z0 z1 z2 z3 v11) != 0) = true := by
      rcases Cd.bad_cases z0 z1 z2 z3 v11 with h | h | h | h | h | h <;> rw [h] at hb ⊢ <;> simp [Cd.er] at hb ⊢
    clear hb
    go_wp2
    refine bodyPost_ret (v := .tuple #[.agg #[.int .i64 0, .int .i64 0, .int .i64 0, .int .i64 0, .int .u64 0], .int .i64 (Cd.er (Cd.bad z0 z1 z2 z3 v11)), .int .i64 (Cd.pl (Cd.bad z0 z1 z2 z3 v11))]) (by simp [results, Tryd.results59, go_sem, *]) rfl ⟨by rw [HR.out], ?_⟩
    exact ((((HB.out.setCell (by simp) _).setCell (by simp) _).setCell (by simp) _).setCell (by simp) _).setCell (by simp) _

set_option maxHeartbeats 2000000 in
theorem raw_core (b off len cap : Nat) (z0 z1 z2 z3 z4 z5 z6 z7 z8 z9 z10 z11 v4 v5 v6 v7 v8 v9 v10 v11 : Int) (w : World) (hl : 12 ≤ len)
    (b0 : 0 ≤ z0 ∧ z0 ≤ 255) (b1 : 0 ≤ z1 ∧ z1 ≤ 255) (b2 : 0 ≤ z2 ∧ z2 ≤ 255) (b3 : 0 ≤ z3 ∧ z3 ≤ 255)
    (c0 : w.cell? ⟨b, off, none⟩ = some (.int .u8 z0)) (c1 : w.cell? ⟨b, off + 1, none⟩ = some (.int .u8 z1)) (c2 : w.cell? ⟨b, off + 2, none⟩ = some (.int .u8 z2)) (c3 : w.cell? ⟨b, off + 3, none⟩ = some (.int .u8 z3)) (c4 : w.cell? ⟨b, off + 4, none⟩ = some (.int .u8 z4)) (c5 : w.cell? ⟨b, off + 5, none⟩ = some (.int .u8 z5)) (c6 : w.cell? ⟨b, off + 6, none⟩ = some (.int .u8 z6)) (c7 : w.cell? ⟨b, off + 7, none⟩ = some (.int .u8 z7)) (c8 : w.cell? ⟨b, off + 8, none⟩ = some (.int .u8 z8)) (c9 : w.cell? ⟨b, off + 9, none⟩ = some (.int .u8 z9)) (c10 : w.cell? ⟨b, off + 10, none⟩ = some (.int .u8 z10)) (c11 : w.cell? ⟨b, off + 11, none⟩ = some (.int .u8 z11))
    (e4 : IntKind.u64.wrap (IntKind.u64.wrap z4) = v4) (e5 : IntKind.u64.wrap (IntKind.u64.wrap (v4 * 256) + IntKind.u64.wrap z5) = v5) (e6 : IntKind.u64.wrap (IntKind.u64.wrap (v5 * 256) + IntKind.u64.wrap z6) = v6) (e7 : IntKind.u64.wrap (IntKind.u64.wrap (v6 * 256) + IntKind.u64.wrap z7) = v7) (e8 : IntKind.u64.wrap (IntKind.u64.wrap (v7 * 256) + IntKind.u64.wrap z8) = v8) (e9 : IntKind.u64.wrap (IntKind.u64.wrap (v8 * 256) + IntKind.u64.wrap z9) = v9) (e10 : IntKind.u64.wrap (IntKind.u64.wrap (v9 * 256) + IntKind.u64.wrap z10) = v10) (e11 : IntKind.u64.wrap (IntKind.u64.wrap (v10 * 256) + IntKind.u64.wrap z11) = v11) (hbl : b < w.heap.size) :
    Calls Tryd.prog 52 #[.slice (some ⟨b, off, none⟩) len cap] w fun e w' => e = .returned (.agg #[.int .i64 z0, .int .i64 z1, .int .i64 z2, .int .i64 z3, .int .u64 v11]) ∧ Below w.heap.size w w' := by
  have l0 : 0 < len := by omega
  have l1 : (1 : Int) < (len : Int) := by omega
  have l2 : (2 : Int) < (len : Int) := by omega
  have l3 : (3 : Int) < (len : Int) := by omega
  have l4 : (4 : Int) < (len : Int) := by omega
  have l5 : (5 : Int) < (len : Int) := by omega
  have l6 : (6 : Int) < (len : Int) := by omega
  have l7 : (7 : Int) < (len : Int) := by omega
  have l8 : (8 : Int) < (len : Int) := by omega
  have l9 : (9 : Int) < (len : Int) := by omega
  have l10 : (10 : Int) < (len : Int) := by omega
  have l11 : (11 : Int) < (len : Int) := by omega
  have hne : b ≠ w.heap.size := by omega
  have hne1 : b ≠ w.heap.size + 1 := by omega
  go_enter Tryd.func52, Tryd.ntmps52
  go_wp2
  go_region_held3 (fun W => W.cell? ⟨b, off, none⟩ = some (.int .u8 z0) ∧ W.cell? ⟨b, off + 1, none⟩ = some (.int .u8 z1) ∧ W.cell? ⟨b, off + 2, none⟩ = some (.int .u8 z2) ∧ W.cell? ⟨b, off + 3, none⟩ = some (.int .u8 z3)) (go_keep) (fail)
  go_wp2
  refine wp_loop_rounds 9 ?_
  rw [rounds_succ]; go_wp2
  refine still_tail 10 (by kernel_rfl) (by kernel_rfl) ?_
  simp only [List.take_succ_cons, List.take_zero, List.drop_succ_cons, List.drop_zero]
  repeat still_step
  refine wpStill_nil ?_
  go_wp2
  rw [rounds_succ]; go_wp2
  refine still_tail 10 (by kernel_rfl) (by kernel_rfl) ?_
  simp only [List.take_succ_cons, List.take_zero, List.drop_succ_cons, List.drop_zero]
  repeat still_step
  refine wpStill_nil ?_
  go_wp2
  rw [rounds_succ]; go_wp2
  refine still_tail 10 (by kernel_rfl) (by kernel_rfl) ?_
  simp only [List.take_succ_cons, List.take_zero, List.drop_succ_cons, List.drop_zero]
  repeat still_step
  refine wpStill_nil ?_
  go_wp2
  rw [rounds_succ]; go_wp2
  refine still_tail 10 (by kernel_rfl) (by kernel_rfl) ?_
  simp only [List.take_succ_cons, List.take_zero, List.drop_succ_cons, List.drop_zero]
  repeat still_step
  refine wpStill_nil ?_
  go_wp2
  rw [rounds_succ]; go_wp2
  refine still_tail 10 (by kernel_rfl) (by kernel_rfl) ?_
  simp only [List.take_succ_cons, List.take_zero, List.drop_succ_cons, List.drop_zero]
  repeat still_step
  refine wpStill_nil ?_
  go_wp2
  rw [rounds_succ]; go_wp2
  refine still_tail 10 (by kernel_rfl) (by kernel_rfl) ?_
  simp only [List.take_succ_cons, List.take_zero, List.drop_succ_cons, List.drop_zero]
  repeat still_step
  refine wpStill_nil ?_
  go_wp2
  rw [rounds_succ]; go_wp2
  refine still_tail 10 (by kernel_rfl) (by kernel_rfl) ?_
  simp only [List.take_succ_cons, List.take_zero, List.drop_succ_cons, List.drop_zero]
  repeat still_step
  refine wpStill_nil ?_
  go_wp2
  rw [rounds_succ]; go_wp2
  refine still_tail 10 (by kernel_rfl) (by kernel_rfl) ?_
  simp only [List.take_succ_cons, List.take_zero, List.drop_succ_cons, List.drop_zero]
  repeat still_step
  refine wpStill_nil ?_
  go_wp2
  rw [rounds_succ]; go_wp2
  refine bodyPost_ret (v := .agg #[.int .i64 z0, .int .i64 z1, .int .i64 z2, .int .i64 z3, .int .u64 v11]) (by simp [results, Tryd.results52, go_sem, *]) rfl ⟨rfl, ?_⟩
  exact (((((((((((Below.refl _ _).alloc (Nat.le_refl _) _).alloc (by simp) _).drew).drew).drew).drew).drew).drew).drew).drew).drew

set_option maxHeartbeats 2000000 in
theorem rget_core (b off len cap : Nat) (z0 z1 z2 z3 v11 : Int) (w : World) (hl : 12 ≤ len)
    (hraw : ∀ W : World, Below w.heap.size w W → Calls Tryd.prog 52 #[.slice (some ⟨b, off, none⟩) len cap] W fun e w' => e = .returned (.agg #[.int .i64 z0, .int .i64 z1, .int .i64 z2, .int .i64 z3, .int .u64 v11]) ∧ Below W.heap.size W w') :
    Calls Tryd.prog 33 #[.slice (some ⟨b, off, none⟩) len cap] w fun e w' => e = .returned (Cd.got z0 z1 z2 z3 v11) ∧ Below w.heap.size w w' := by
  have HH := Lib.hid hraw
  clear hraw
  have HW : ∀ W : World, Calls Tryd.prog 43 #[.agg #[.int .i64 z0, .int .i64 z1, .int .i64 z2, .int .i64 z3, .int .u64 v11]] W fun e w' => e = .returned (.int .i64 (Cd.bad z0 z1 z2 z3 v11)) ∧ Below W.heap.size W w' := fun W => by
    have := wrong_any z0 z1 z2 z3 v11 W
    rw [Cd.rbad_bad] at this
    exact this
  have HG := Lib.hid HW
  clear HW
  go_enter Tryd.func33, Tryd.ntmps33
  go_wp2_with fail
  refine (HH.out _ ((Below.refl _ _).alloc (Nat.le_refl _) _)).mono ?_
  rintro e u ⟨rfl, hbu⟩
  have hz0 : w.heap.size < u.heap.size := by have := hbu.size; simp at this; omega
  have bl0 : Below w.heap.size w u := ((Below.refl _ _).alloc (Nat.le_refl _) _).trans (hbu.mono (by simp))
  have s0 : u.cell? ⟨w.heap.size, 0, none⟩ = some (.int .i64 0) := cells_below hbu (by simp [go_sem]) (by simp; try omega)
  have s1 : u.cell? ⟨w.heap.size, 1, none⟩ = some (.int .i64 0) := cells_below hbu (by simp [go_sem]) (by simp; try omega)
  have s2 : u.cell? ⟨w.heap.size, 2, none⟩ = some (.int .i64 0) := cells_below hbu (by simp [go_sem]) (by simp; try omega)
  have s3 : u.cell? ⟨w.heap.size, 3, none⟩ = some (.int .i64 0) := cells_below hbu (by simp [go_sem]) (by simp; try omega)
  have s4 : u.cell? ⟨w.heap.size, 4, none⟩ = some (.int .u64 0) := cells_below hbu (by simp [go_sem]) (by simp; try omega)
  have f0 : u.frozen? ⟨w.heap.size, 0, none⟩ = false := (hbu.frozen (p := ⟨w.heap.size, 0, none⟩) (by simp; try omega)).trans (by simp [go_sem])
  have f1 : u.frozen? ⟨w.heap.size, 1, none⟩ = false := (hbu.frozen (p := ⟨w.heap.size, 1, none⟩) (by simp; try omega)).trans (by simp [go_sem])
  have f2 : u.frozen? ⟨w.heap.size, 2, none⟩ = false := (hbu.frozen (p := ⟨w.heap.size, 2, none⟩) (by simp; try omega)).trans (by simp [go_sem])
  have f3 : u.frozen? ⟨w.heap.size, 3, none⟩ = false := (hbu.frozen (p := ⟨w.heap.size, 3, none⟩) (by simp; try omega)).trans (by simp [go_sem])
  have f4 : u.frozen? ⟨w.heap.size, 4, none⟩ = false := (hbu.frozen (p := ⟨w.heap.size, 4, none⟩) (by simp; try omega)).trans (by simp [go_sem])
  have HL := Lib.hid bl0
  clear hbu bl0
  go_wp2_with fail
  refine (HG.out _).mono ?_
  rintro e v ⟨rfl, hbv⟩
  have hz1 : u.heap.size < v.heap.size := by have := hbv.size; simp at this; omega
  have bl1 : Below w.heap.size w v := (HL.out.alloc (by omega) _).trans (hbv.mono (by simp; omega))
  have p0 : v.cell? ⟨w.heap.size, 0, none⟩ = some (.int .i64 0) := cells_below hbv ((World.cell?_alloc_lt _ _ _ (by simpa using hz0)).trans s0) (by simp; omega)
  have q0 : v.frozen? ⟨w.heap.size, 0, none⟩ = false := (hbv.frozen (p := ⟨w.heap.size, 0, none⟩) (by simp; omega)).trans ((World.frozen?_alloc_past _ _ _ hz0).trans f0)
  have t0 : v.cell? ⟨u.heap.size, 0, none⟩ = some (.int .i64 z0) := cells_below hbv (by simp [go_sem]) (by simp; try omega)
  have p1 : v.cell? ⟨w.heap.size, 1, none⟩ = some (.int .i64 0) := cells_below hbv ((World.cell?_alloc_lt _ _ _ (by simpa using hz0)).trans s1) (by simp; omega)
  have q1 : v.frozen? ⟨w.heap.size, 1, none⟩ = false := (hbv.frozen (p := ⟨w.heap.size, 1, none⟩) (by simp; omega)).trans ((World.frozen?_alloc_past _ _ _ hz0).trans f1)
  have t1 : v.cell? ⟨u.heap.size, 1, none⟩ = some (.int .i64 z1) := cells_below hbv (by simp [go_sem]) (by simp; try omega)
  have p2 : v.cell? ⟨w.heap.size, 2, none⟩ = some (.int .i64 0) := cells_below hbv ((World.cell?_alloc_lt _ _ _ (by simpa using hz0)).trans s2) (by simp; omega)
  have q2 : v.frozen? ⟨w.heap.size, 2, none⟩ = false := (hbv.frozen (p := ⟨w.heap.size, 2, none⟩) (by simp; omega)).trans ((World.frozen?_alloc_past _ _ _ hz0).trans f2)
  have t2 : v.cell? ⟨u.heap.size, 2, none⟩ = some (.int .i64 z2) := cells_below hbv (by simp [go_sem]) (by simp; try omega)
  have p3 : v.cell? ⟨w.heap.size, 3, none⟩ = some (.int .i64 0) := cells_below hbv ((World.cell?_alloc_lt _ _ _ (by simpa using hz0)).trans s3) (by simp; omega)
  have q3 : v.frozen? ⟨w.heap.size, 3, none⟩ = false := (hbv.frozen (p := ⟨w.heap.size, 3, none⟩) (by simp; omega)).trans ((World.frozen?_alloc_past _ _ _ hz0).trans f3)
  have t3 : v.cell? ⟨u.heap.size, 3, none⟩ = some (.int .i64 z3) := cells_below hbv (by simp [go_sem]) (by simp; try omega)
  have p4 : v.cell? ⟨w.heap.size, 4, none⟩ = some (.int .u64 0) := cells_below hbv ((World.cell?_alloc_lt _ _ _ (by simpa using hz0)).trans s4) (by simp; omega)
  have q4 : v.frozen? ⟨w.heap.size, 4, none⟩ = false := (hbv.frozen (p := ⟨w.heap.size, 4, none⟩) (by simp; omega)).trans ((World.frozen?_alloc_past _ _ _ hz0).trans f4)
  have t4 : v.cell? ⟨u.heap.size, 4, none⟩ = some (.int .u64 v11) := cells_below hbv (by simp [go_sem]) (by simp; try omega)
  have HB := Lib.hid bl1
  clear hbv bl1 s0 f0 s1 f1 s2 f2 s3 f3 s4 f4
  have hcs := Cd.bad_cases z0 z1 z2 z3 v11
  by_cases hb : Cd.bad z0 z1 z2 z3 v11 = -1
  · have HR : Hid (Cd.got z0 z1 z2 z3 v11 = .tuple #[.agg #[.int .i64 z0, .int .i64 z1, .int .i64 z2, .int .i64 z3, .int .u64 v11], .int .i64 0, .int .i64 0]) := Lib.hid (by rw [Cd.got, if_pos hb])
    clear hcs
    go_wp2
    refine bodyPost_ret (v := .tuple #[.agg #[.int .i64 z0, .int .i64 z1, .int .i64 z2, .int .i64 z3, .int .u64 v11], .int .i64 0, .int .i64 0]) (by simp [results, Tryd.results33, go_sem, *]) rfl ⟨by rw [HR.out], ?_⟩
    exact ((((HB.out.setCell (by simp) _).setCell (by simp) _).setCell (by simp) _).setCell (by simp) _).setCell (by simp) _
  · by_cases hb0 : Cd.bad z0 z1 z2 z3 v11 = 0
    · have HR : Hid (Cd.got z0 z1 z2 z3 v11 = .tuple #[.agg #[.int .i64 0, .int .i64 0, .int .i64 0, .int .i64 0, .int .u64 0], .int .i64 4, .int .i64 0]) := Lib.hid (by rw [Cd.got, if_neg hb, hb0]; rfl)
      clear hcs hb
      go_wp2
      refine bodyPost_ret (v := .tuple #[.agg #[.int .i64 0, .int .i64 0, .int .i64 0, .int .i64 0, .int .u64 0], .int .i64 4, .int .i64 0]) (by simp [results, Tryd.results33, go_sem, *]) rfl ⟨by rw [HR.out], ?_⟩
      exact ((((HB.out.setCell (by simp) _).setCell (by simp) _).setCell (by simp) _).setCell (by simp) _).setCell (by simp) _
    · have HR : Hid (Cd.got z0 z1 z2 z3 v11 = .tuple #[.agg #[.int .i64 0, .int .i64 0, .int .i64 0, .int .i64 0, .int .u64 0], .int .i64 5, .int .i64 (Cd.bad z0 z1 z2 z3 v11)]) := Lib.hid (by rw [Cd.got, if_neg hb, Cd.er, if_neg hb0, if_neg hb, Cd.pl, if_neg hb])
      have g0 : (Cd.bad z0 z1 z2 z3 v11 == 0) = false := by simpa using hb0
      have g1 : 0 < Cd.bad z0 z1 z2 z3 v11 := by omega
      clear hcs hb hb0
      go_wp2
      refine bodyPost_ret (v := .tuple #[.agg #[.int .i64 0, .int .i64 0, .int .i64 0, .int .i64 0, .int .u64 0], .int .i64 5, .int .i64 (Cd.bad z0 z1 z2 z3 v11)]) (by simp [results, Tryd.results33, go_sem, *]) rfl ⟨by rw [HR.out], ?_⟩
      exact ((((HB.out.setCell (by simp) _).setCell (by simp) _).setCell (by simp) _).setCell (by simp) _).setCell (by simp) _
end Go.Proofs.YtjadiijjahjjoaaDoor
