/-
  The reference's Right, of operations with 2 kids.
  The reference's Right, of operations with 3 kids.
  Contracts of the reference's Right, and of both Check.
-/
import Derived.Test.YtdbcpnpcnkccaaaMC
set_option linter.unusedSimpArgs false
set_option linter.unusedVariables false
namespace Go.Proofs.Ytdbcpnpcnkccaaa
open Go.RowKit

set_option maxRecDepth 20000 in
set_option maxHeartbeats 2000000 in
theorem rr20 (op v n a b c : Int) (A : Option Addr) (len cap : Nat) (w : World) (hk : Tm.kidn op = 2) (o1 : ¬ op < 0) (o2 : ¬ 24 < op) (hm : len ≤ maxLen) (e0 : a < 0 ∨ (len : Int) ≤ a) :
    Calls Try.prog 44 #[.agg #[.int .i64 op, .int .i64 v, .int .u64 n, .int .i64 a, .int .i64 b, .int .i64 c], .slice A len cap] w fun e w' => e = .returned (.int .i64 9) ∧ Below w.heap.size w w' := by
  unfold maxLen at hm
  have HK := Lib.hid hk
  clear hk
  rcases e0 with e0 | e0
  all_goals
    go_enter Try.func44, Try.ntmps44
    go_wp2_with (go_at_call 20; refine (rkids_any _ _).mono ?_; rintro e w' ⟨rfl, rfl⟩; rw [HK.out])
    refine wp_loop_rounds 4 ?_
    rw [rounds_succ]; go_wp2_with (go_at_call 20; refine (rkids_any _ _).mono ?_; rintro e w' ⟨rfl, rfl⟩; rw [HK.out])
    go_ret
    exact ⟨rfl, ((Below.refl _ _).alloc (Nat.le_refl _) _).alloc (by simp) _⟩

set_option maxRecDepth 20000 in
set_option maxHeartbeats 2000000 in
theorem rr21 (op v n b c : Int) (g o : Nat) (len cap : Nat) (w : World) (hk : Tm.kidn op = 2) (o1 : ¬ op < 0) (o2 : ¬ 24 < op) (hm : len ≤ maxLen) (hg : g < w.heap.size) (i0 : Nat) (v0 : Int) (l0 : i0 < len) (q0 : w.cell? ⟨g, o + i0 * 6 + 1, none⟩ = some (.int .i64 v0)) (e1 : b < 0 ∨ (len : Int) ≤ b) :
    Calls Try.prog 44 #[.agg #[.int .i64 op, .int .i64 v, .int .u64 n, .int .i64 (i0 : Nat), .int .i64 b, .int .i64 c], .slice (some ⟨g, o, none⟩) len cap] w fun e w' => e = .returned (.int .i64 9) ∧ Below w.heap.size w w' := by
  unfold maxLen at hm
  have HK := Lib.hid hk
  clear hk
  have l0' : ¬ (len : Int) ≤ i0 := by omega
  have m1 : g < w.heap.size + 1 := by omega
  have m2 : g < w.heap.size + 1 + 1 := by omega
  rcases e1 with e1 | e1
  all_goals
    go_enter Try.func44, Try.ntmps44
    go_wp2_with (go_at_call 20; refine (rkids_any _ _).mono ?_; rintro e w' ⟨rfl, rfl⟩; rw [HK.out])
    refine wp_loop_rounds 4 ?_
    rw [rounds_succ]; go_wp2_with (go_at_call 20; refine (rkids_any _ _).mono ?_; rintro e w' ⟨rfl, rfl⟩; rw [HK.out])
    rw [rounds_succ]; go_wp2_with (go_at_call 20; refine (rkids_any _ _).mono ?_; rintro e w' ⟨rfl, rfl⟩; rw [HK.out])
    go_ret
    exact ⟨rfl, ((Below.refl _ _).alloc (Nat.le_refl _) _).alloc (by simp) _⟩

set_option maxRecDepth 20000 in
set_option maxHeartbeats 2000000 in
theorem rr22 (op v n c : Int) (g o : Nat) (len cap : Nat) (w : World) (hk : Tm.kidn op = 2) (o1 : ¬ op < 0) (o2 : ¬ 24 < op) (hm : len ≤ maxLen) (hg : g < w.heap.size) (i0 : Nat) (v0 : Int) (l0 : i0 < len) (q0 : w.cell? ⟨g, o + i0 * 6 + 1, none⟩ = some (.int .i64 v0)) (i1 : Nat) (v1 : Int) (l1 : i1 < len) (q1 : w.cell? ⟨g, o + i1 * 6 + 1, none⟩ = some (.int .i64 v1)) (e2 : (c != 0) = true) :
    Calls Try.prog 44 #[.agg #[.int .i64 op, .int .i64 v, .int .u64 n, .int .i64 (i0 : Nat), .int .i64 (i1 : Nat), .int .i64 c], .slice (some ⟨g, o, none⟩) len cap] w fun e w' => e = .returned (.int .i64 9) ∧ Below w.heap.size w w' := by
  unfold maxLen at hm
  have HK := Lib.hid hk
  clear hk
  have l0' : ¬ (len : Int) ≤ i0 := by omega
  have l1' : ¬ (len : Int) ≤ i1 := by omega
  have m1 : g < w.heap.size + 1 := by omega
  have m2 : g < w.heap.size + 1 + 1 := by omega
  go_enter Try.func44, Try.ntmps44
  go_wp2_with (go_at_call 20; refine (rkids_any _ _).mono ?_; rintro e w' ⟨rfl, rfl⟩; rw [HK.out])
  refine wp_loop_rounds 4 ?_
  rw [rounds_succ]; go_wp2_with (go_at_call 20; refine (rkids_any _ _).mono ?_; rintro e w' ⟨rfl, rfl⟩; rw [HK.out])
  rw [rounds_succ]; go_wp2_with (go_at_call 20; refine (rkids_any _ _).mono ?_; rintro e w' ⟨rfl, rfl⟩; rw [HK.out])
  rw [rounds_succ]; go_wp2_with (go_at_call 20; refine (rkids_any _ _).mono ?_; rintro e w' ⟨rfl, rfl⟩; rw [HK.out])
  go_ret
  exact ⟨rfl, ((Below.refl _ _).alloc (Nat.le_refl _) _).alloc (by simp) _⟩

set_option maxRecDepth 20000 in
set_option maxHeartbeats 2000000 in
theorem rr23 (op v n c : Int) (g o : Nat) (len cap : Nat) (w : World) (hk : Tm.kidn op = 2) (o1 : ¬ op < 0) (o2 : ¬ 24 < op) (hm : len ≤ maxLen) (hg : g < w.heap.size) (i0 : Nat) (v0 : Int) (l0 : i0 < len) (q0 : w.cell? ⟨g, o + i0 * 6 + 1, none⟩ = some (.int .i64 v0)) (i1 : Nat) (v1 : Int) (l1 : i1 < len) (q1 : w.cell? ⟨g, o + i1 * 6 + 1, none⟩ = some (.int .i64 v1)) (e2 : (c != 0) = false) :
    Calls Try.prog 44 #[.agg #[.int .i64 op, .int .i64 v, .int .u64 n, .int .i64 (i0 : Nat), .int .i64 (i1 : Nat), .int .i64 c], .slice (some ⟨g, o, none⟩) len cap] w fun e w' => e = .returned (.int .i64 (Tm.rres op v n v0 v1 0)) ∧ Below w.heap.size w w' := by
  unfold maxLen at hm
  have HK := Lib.hid hk
  clear hk
  have l0' : ¬ (len : Int) ≤ i0 := by omega
  have l1' : ¬ (len : Int) ≤ i1 := by omega
  have m1 : g < w.heap.size + 1 := by omega
  have m2 : g < w.heap.size + 1 + 1 := by omega
  go_enter Try.func44, Try.ntmps44
  go_wp2_with (go_at_call 20; refine (rkids_any _ _).mono ?_; rintro e w' ⟨rfl, rfl⟩; rw [HK.out])
  refine wp_loop_rounds 4 ?_
  rw [rounds_succ]; go_wp2_with (go_at_call 20; refine (rkids_any _ _).mono ?_; rintro e w' ⟨rfl, rfl⟩; rw [HK.out])
  rw [rounds_succ]; go_wp2_with (go_at_call 20; refine (rkids_any _ _).mono ?_; rintro e w' ⟨rfl, rfl⟩; rw [HK.out])
  rw [rounds_succ]; go_wp2_with (go_at_call 20; refine (rkids_any _ _).mono ?_; rintro e w' ⟨rfl, rfl⟩; rw [HK.out])
  rw [rounds_succ]; go_wp2_with (go_at_call 20; refine (rkids_any _ _).mono ?_; rintro e w' ⟨rfl, rfl⟩; rw [HK.out])
  have hS : (fun W => W.cell? ⟨w.heap.size, 0, none⟩ = some (.int .i64 op) ∧ W.cell? ⟨w.heap.size, 1, none⟩ = some (.int .i64 v) ∧ W.cell? ⟨w.heap.size, 2, none⟩ = some (.int .u64 n) ∧ W.cell? ⟨w.heap.size, 3, none⟩ = some (.int .i64 (i0 : Nat)) ∧ W.cell? ⟨w.heap.size, 4, none⟩ = some (.int .i64 (i1 : Nat)) ∧ W.cell? ⟨w.heap.size, 5, none⟩ = some (.int .i64 c) ∧ W.cell? ⟨w.heap.size + 1, 0, none⟩ = some (.int .i64 v0) ∧ W.cell? ⟨w.heap.size + 1, 1, none⟩ = some (.int .i64 v1) ∧ W.cell? ⟨w.heap.size + 1, 2, none⟩ = some (.int .i64 0)) ((w.alloc (.cells #[.int .i64 op, .int .i64 v, .int .u64 n, .int .i64 (i0 : Nat), .int .i64 (i1 : Nat), .int .i64 c] 36)).alloc (.cells #[.int .i64 v0, .int .i64 v1, .int .i64 0] 34)) := by simp [go_sem]
  have hB : Below w.heap.size w ((w.alloc (.cells #[.int .i64 op, .int .i64 v, .int .u64 n, .int .i64 (i0 : Nat), .int .i64 (i1 : Nat), .int .i64 c] 36)).alloc (.cells #[.int .i64 v0, .int .i64 v1, .int .i64 0] 34)) := ((Below.refl _ _).alloc (Nat.le_refl _) _).alloc (by simp) _
  have hZ : w.heap.size + 1 < ((w.alloc (.cells #[.int .i64 op, .int .i64 v, .int .u64 n, .int .i64 (i0 : Nat), .int .i64 (i1 : Nat), .int .i64 c] 36)).alloc (.cells #[.int .i64 v0, .int .i64 v1, .int .i64 0] 34)).heap.size := by simp
  revert hS hB hZ
  generalize ((w.alloc (.cells #[.int .i64 op, .int .i64 v, .int .u64 n, .int .i64 (i0 : Nat), .int .i64 (i1 : Nat), .int .i64 c] 36)).alloc (.cells #[.int .i64 v0, .int .i64 v1, .int .i64 0] 34)) = U
  intro hS hB hZ
  have HB := Lib.hid (show Below w.heap.size w U.drew from hB.drew)
  have hQ := hS
  obtain ⟨c0, c1, c2, c3, c4, c5, d0, d1, d2⟩ := hS
  have HS := Lib.hid (show (fun W => W.cell? ⟨w.heap.size, 0, none⟩ = some (.int .i64 op) ∧ W.cell? ⟨w.heap.size, 1, none⟩ = some (.int .i64 v) ∧ W.cell? ⟨w.heap.size, 2, none⟩ = some (.int .u64 n) ∧ W.cell? ⟨w.heap.size, 3, none⟩ = some (.int .i64 (i0 : Nat)) ∧ W.cell? ⟨w.heap.size, 4, none⟩ = some (.int .i64 (i1 : Nat)) ∧ W.cell? ⟨w.heap.size, 5, none⟩ = some (.int .i64 c) ∧ W.cell? ⟨w.heap.size + 1, 0, none⟩ = some (.int .i64 v0) ∧ W.cell? ⟨w.heap.size + 1, 1, none⟩ = some (.int .i64 v1) ∧ W.cell? ⟨w.heap.size + 1, 2, none⟩ = some (.int .i64 0)) U.drew from hQ)
  have HZ := Lib.hid (show w.heap.size + 1 < U.drew.heap.size from hZ)
  clear hB hQ hZ
  by_cases h1 : Tm.rwid op v v0 v1 0 = v
  · have x1 : (Tm.rwid op v v0 v1 0 != v) = false := by simpa using h1
    by_cases h2 : v < 0
    · have x2 : decide (v < 0) = true := decide_eq_true h2
      have HR := Lib.hid (show Tm.rres op v n v0 v1 0 = 8 from if_pos (.inr h2))
      clear h1 h2
      go_region_held3 (fun W => W.cell? ⟨w.heap.size, 0, none⟩ = some (.int .i64 op) ∧ W.cell? ⟨w.heap.size, 1, none⟩ = some (.int .i64 v) ∧ W.cell? ⟨w.heap.size, 2, none⟩ = some (.int .u64 n) ∧ W.cell? ⟨w.heap.size, 3, none⟩ = some (.int .i64 (i0 : Nat)) ∧ W.cell? ⟨w.heap.size, 4, none⟩ = some (.int .i64 (i1 : Nat)) ∧ W.cell? ⟨w.heap.size, 5, none⟩ = some (.int .i64 c) ∧ W.cell? ⟨w.heap.size + 1, 0, none⟩ = some (.int .i64 v0) ∧ W.cell? ⟨w.heap.size + 1, 1, none⟩ = some (.int .i64 v1) ∧ W.cell? ⟨w.heap.size + 1, 2, none⟩ = some (.int .i64 0))
        (first | with_reducible exact HS.out | with_reducible exact nine_keep (by assumption) HZ.out HS.out)
        (first | (go_at_call 66; (with_reducible refine (rwidth_any _ _ _ _ _ _ _ _ _ _).mono ?_); rintro e v9 ⟨rfl, hb9⟩))
      go_wp2
      go_ret
      exact ⟨ret_int HR.out.symm, HB.out.trans (hb9.mono HB.out.size)⟩
    · have x2 : decide (v < 0) = false := decide_eq_false h2
      have HR := Lib.hid (show Tm.rres op v n v0 v1 0 = (if Tm.mst op v < n then 3 else 0) from if_neg (by omega))
      clear h1 h2
      go_region_held3 (fun W => W.cell? ⟨w.heap.size, 0, none⟩ = some (.int .i64 op) ∧ W.cell? ⟨w.heap.size, 1, none⟩ = some (.int .i64 v) ∧ W.cell? ⟨w.heap.size, 2, none⟩ = some (.int .u64 n) ∧ W.cell? ⟨w.heap.size, 3, none⟩ = some (.int .i64 (i0 : Nat)) ∧ W.cell? ⟨w.heap.size, 4, none⟩ = some (.int .i64 (i1 : Nat)) ∧ W.cell? ⟨w.heap.size, 5, none⟩ = some (.int .i64 c) ∧ W.cell? ⟨w.heap.size + 1, 0, none⟩ = some (.int .i64 v0) ∧ W.cell? ⟨w.heap.size + 1, 1, none⟩ = some (.int .i64 v1) ∧ W.cell? ⟨w.heap.size + 1, 2, none⟩ = some (.int .i64 0))
        (first | with_reducible exact HS.out | with_reducible exact nine_keep (by assumption) HZ.out HS.out)
        (first | (go_at_call 66; (with_reducible refine (rwidth_any _ _ _ _ _ _ _ _ _ _).mono ?_); rintro e v9 ⟨rfl, hb9⟩))
      have HS9 := Lib.hid (show (fun W => W.cell? ⟨w.heap.size, 0, none⟩ = some (.int .i64 op) ∧ W.cell? ⟨w.heap.size, 1, none⟩ = some (.int .i64 v) ∧ W.cell? ⟨w.heap.size, 2, none⟩ = some (.int .u64 n) ∧ W.cell? ⟨w.heap.size, 3, none⟩ = some (.int .i64 (i0 : Nat)) ∧ W.cell? ⟨w.heap.size, 4, none⟩ = some (.int .i64 (i1 : Nat)) ∧ W.cell? ⟨w.heap.size, 5, none⟩ = some (.int .i64 c) ∧ W.cell? ⟨w.heap.size + 1, 0, none⟩ = some (.int .i64 v0) ∧ W.cell? ⟨w.heap.size + 1, 1, none⟩ = some (.int .i64 v1) ∧ W.cell? ⟨w.heap.size + 1, 2, none⟩ = some (.int .i64 0)) v9.drew from (show (fun W => W.cell? ⟨w.heap.size, 0, none⟩ = some (.int .i64 op) ∧ W.cell? ⟨w.heap.size, 1, none⟩ = some (.int .i64 v) ∧ W.cell? ⟨w.heap.size, 2, none⟩ = some (.int .u64 n) ∧ W.cell? ⟨w.heap.size, 3, none⟩ = some (.int .i64 (i0 : Nat)) ∧ W.cell? ⟨w.heap.size, 4, none⟩ = some (.int .i64 (i1 : Nat)) ∧ W.cell? ⟨w.heap.size, 5, none⟩ = some (.int .i64 c) ∧ W.cell? ⟨w.heap.size + 1, 0, none⟩ = some (.int .i64 v0) ∧ W.cell? ⟨w.heap.size + 1, 1, none⟩ = some (.int .i64 v1) ∧ W.cell? ⟨w.heap.size + 1, 2, none⟩ = some (.int .i64 0)) v9 from nine_keep hb9 HZ.out HS.out))
      have HB9 := Lib.hid (show Below w.heap.size w v9.drew from (HB.out.trans (hb9.mono HB.out.size)).drew)
      have HZ9 := Lib.hid (show w.heap.size + 1 < v9.drew.heap.size from Nat.lt_of_lt_of_le HZ.out hb9.size)
      clear hb9 c0 c1 c2 c3 c4 c5 d0 d1 d2 HS HB HZ
      obtain ⟨c0, c1, c2, c3, c4, c5, d0, d1, d2⟩ := (show (fun W => W.cell? ⟨w.heap.size, 0, none⟩ = some (.int .i64 op) ∧ W.cell? ⟨w.heap.size, 1, none⟩ = some (.int .i64 v) ∧ W.cell? ⟨w.heap.size, 2, none⟩ = some (.int .u64 n) ∧ W.cell? ⟨w.heap.size, 3, none⟩ = some (.int .i64 (i0 : Nat)) ∧ W.cell? ⟨w.heap.size, 4, none⟩ = some (.int .i64 (i1 : Nat)) ∧ W.cell? ⟨w.heap.size, 5, none⟩ = some (.int .i64 c) ∧ W.cell? ⟨w.heap.size + 1, 0, none⟩ = some (.int .i64 v0) ∧ W.cell? ⟨w.heap.size + 1, 1, none⟩ = some (.int .i64 v1) ∧ W.cell? ⟨w.heap.size + 1, 2, none⟩ = some (.int .i64 0)) v9 from HS9.out)
      by_cases h3 : Tm.mst op v < n
      · have x3 : decide (Tm.mst op v < n) = true := decide_eq_true h3
        have HR3 := Lib.hid (HR.out.trans (if_pos h3))
        clear h3
        go_wp2_with fail
        go_region_held3 (fun W => W.cell? ⟨w.heap.size, 0, none⟩ = some (.int .i64 op) ∧ W.cell? ⟨w.heap.size, 1, none⟩ = some (.int .i64 v) ∧ W.cell? ⟨w.heap.size, 2, none⟩ = some (.int .u64 n) ∧ W.cell? ⟨w.heap.size, 3, none⟩ = some (.int .i64 (i0 : Nat)) ∧ W.cell? ⟨w.heap.size, 4, none⟩ = some (.int .i64 (i1 : Nat)) ∧ W.cell? ⟨w.heap.size, 5, none⟩ = some (.int .i64 c) ∧ W.cell? ⟨w.heap.size + 1, 0, none⟩ = some (.int .i64 v0) ∧ W.cell? ⟨w.heap.size + 1, 1, none⟩ = some (.int .i64 v1) ∧ W.cell? ⟨w.heap.size + 1, 2, none⟩ = some (.int .i64 0))
          (first | with_reducible exact HS9.out | with_reducible exact nine_keep (by assumption) HZ9.out HS9.out)
          (first | (go_at_call 67; (with_reducible refine (most_any _ _ _ _ _ _ _).mono ?_); rintro e v8 ⟨rfl, hb8⟩))
        go_wp2
        go_ret
        exact ⟨ret_int HR3.out.symm, HB9.out.trans (hb8.mono HB9.out.size)⟩
      · have x3 : decide (Tm.mst op v < n) = false := decide_eq_false h3
        have HR3 := Lib.hid (HR.out.trans (if_neg h3))
        clear h3
        go_wp2_with fail
        go_region_held3 (fun W => W.cell? ⟨w.heap.size, 0, none⟩ = some (.int .i64 op) ∧ W.cell? ⟨w.heap.size, 1, none⟩ = some (.int .i64 v) ∧ W.cell? ⟨w.heap.size, 2, none⟩ = some (.int .u64 n) ∧ W.cell? ⟨w.heap.size, 3, none⟩ = some (.int .i64 (i0 : Nat)) ∧ W.cell? ⟨w.heap.size, 4, none⟩ = some (.int .i64 (i1 : Nat)) ∧ W.cell? ⟨w.heap.size, 5, none⟩ = some (.int .i64 c) ∧ W.cell? ⟨w.heap.size + 1, 0, none⟩ = some (.int .i64 v0) ∧ W.cell? ⟨w.heap.size + 1, 1, none⟩ = some (.int .i64 v1) ∧ W.cell? ⟨w.heap.size + 1, 2, none⟩ = some (.int .i64 0))
          (first | with_reducible exact HS9.out | with_reducible exact nine_keep (by assumption) HZ9.out HS9.out)
          (first | (go_at_call 67; (with_reducible refine (most_any _ _ _ _ _ _ _).mono ?_); rintro e v8 ⟨rfl, hb8⟩))
        go_wp2
        go_ret
        exact ⟨ret_int HR3.out.symm, HB9.out.trans (hb8.mono HB9.out.size)⟩
  · have x1 : (Tm.rwid op v v0 v1 0 != v) = true := by simpa using h1
    have HR := Lib.hid (show Tm.rres op v n v0 v1 0 = 8 from if_pos (.inl h1))
    have x3 : (Tm.rwid op v v0 v1 0 == v) = false := by simpa using h1
    clear h1
    refine wp_region_held_drew (S := fun W => W.cell? ⟨w.heap.size, 0, none⟩ = some (.int .i64 op) ∧ W.cell? ⟨w.heap.size, 1, none⟩ = some (.int .i64 v) ∧ W.cell? ⟨w.heap.size, 2, none⟩ = some (.int .u64 n) ∧ W.cell? ⟨w.heap.size, 3, none⟩ = some (.int .i64 (i0 : Nat)) ∧ W.cell? ⟨w.heap.size, 4, none⟩ = some (.int .i64 (i1 : Nat)) ∧ W.cell? ⟨w.heap.size, 5, none⟩ = some (.int .i64 c) ∧ W.cell? ⟨w.heap.size + 1, 0, none⟩ = some (.int .i64 v0) ∧ W.cell? ⟨w.heap.size + 1, 1, none⟩ = some (.int .i64 v1) ∧ W.cell? ⟨w.heap.size + 1, 2, none⟩ = some (.int .i64 0)) (by kernel_rfl) HS.out (fun hHeld => ?_)
    refine wpAnyH_take (i := 0) (v := .agg #[.int .i64 op, .int .i64 v, .int .u64 n, .int .i64 (i0 : Nat), .int .i64 (i1 : Nat), .int .i64 c]) rfl (by kernel_rfl) (by kernel_rfl) (by kernel_rfl) (fun _ _ _ h => h) (Or.inl ⟨by rfl, fun w9 hSw => ?_⟩) hHeld ?_
    · (try dsimp only at hSw); go_simp
    try simp only [Act.put, List.setIfInBounds_toArray, List.set_cons_zero, List.set_cons_succ]
    refine wpAnyH_take (i := 1) (v := .pointer (some ⟨w.heap.size + 1, 0, none⟩)) rfl (by kernel_rfl) (by kernel_rfl) (by kernel_rfl) (fun _ _ _ h => h) (Or.inl ⟨by rfl, fun w9 hSw => ?_⟩) hHeld ?_
    · (try dsimp only at hSw); go_simp
    try simp only [Act.put, List.setIfInBounds_toArray, List.set_cons_zero, List.set_cons_succ]
    refine wpAnyH_take (i := 2) (v := .int .i64 v0) rfl (by kernel_rfl) (by kernel_rfl) (by kernel_rfl) (fun _ _ _ h => h) (Or.inl ⟨by rfl, fun w9 hSw => ?_⟩) hHeld ?_
    · (try dsimp only at hSw); go_simp
    try simp only [Act.put, List.setIfInBounds_toArray, List.set_cons_zero, List.set_cons_succ]
    refine wpAnyH_take (i := 3) (v := .pointer (some ⟨w.heap.size + 1, 1, none⟩)) rfl (by kernel_rfl) (by kernel_rfl) (by kernel_rfl) (fun _ _ _ h => h) (Or.inl ⟨by rfl, fun w9 hSw => ?_⟩) hHeld ?_
    · (try dsimp only at hSw); go_simp
    try simp only [Act.put, List.setIfInBounds_toArray, List.set_cons_zero, List.set_cons_succ]
    refine wpAnyH_take (i := 4) (v := .int .i64 v1) rfl (by kernel_rfl) (by kernel_rfl) (by kernel_rfl) (fun _ _ _ h => h) (Or.inl ⟨by rfl, fun w9 hSw => ?_⟩) hHeld ?_
    · (try dsimp only at hSw); go_simp
    try simp only [Act.put, List.setIfInBounds_toArray, List.set_cons_zero, List.set_cons_succ]
    refine wpAnyH_take (i := 5) (v := .pointer (some ⟨w.heap.size + 1, 2, none⟩)) rfl (by kernel_rfl) (by kernel_rfl) (by kernel_rfl) (fun _ _ _ h => h) (Or.inl ⟨by rfl, fun w9 hSw => ?_⟩) hHeld ?_
    · (try dsimp only at hSw); go_simp
    try simp only [Act.put, List.setIfInBounds_toArray, List.set_cons_zero, List.set_cons_succ]
    refine wpAnyH_take (i := 6) (v := .int .i64 0) rfl (by kernel_rfl) (by kernel_rfl) (by kernel_rfl) (fun _ _ _ h => h) (Or.inl ⟨by rfl, fun w9 hSw => ?_⟩) hHeld ?_
    · (try dsimp only at hSw); go_simp
    try simp only [Act.put, List.setIfInBounds_toArray, List.set_cons_zero, List.set_cons_succ]
    refine wpAnyH_take (i := 8) (v := .pointer (some ⟨w.heap.size, 1, none⟩)) rfl (by kernel_rfl) (by kernel_rfl) (by kernel_rfl) (fun _ _ _ h => h) (Or.inl ⟨by rfl, fun w9 hSw => ?_⟩) hHeld ?_
    · (try dsimp only at hSw); go_simp
    try simp only [Act.put, List.setIfInBounds_toArray, List.set_cons_zero, List.set_cons_succ]
    refine wpAnyH_take (i := 9) (v := .int .i64 v) rfl (by kernel_rfl) (by kernel_rfl) (by kernel_rfl) (fun _ _ _ h => h) (Or.inl ⟨by rfl, fun w9 hSw => ?_⟩) hHeld ?_
    · (try dsimp only at hSw); go_simp
    try simp only [Act.put, List.setIfInBounds_toArray, List.set_cons_zero, List.set_cons_succ]
    refine wpAnyH_ready (rs := [7]) (by kernel_rfl) (by simp) ?_
    refine AllReadyH.cons rfl (fun K hK => ?_) AllReadyH.nil
    go_simp
    go_at_call 66
    (with_reducible refine (rwidth_any _ _ _ _ _ _ _ _ _ _).mono ?_)
    rintro e v9 ⟨rfl, hb9⟩
    go_wp2_with fail
    refine hK.out _ _ (nine_keep hb9 HZ.out HS.out) (fun hHeld => ?_)
    clear hK K
    try simp only [Act.put, List.setIfInBounds_toArray, List.set_cons_zero, List.set_cons_succ]
    refine wpAnyH_take (i := 10) (v := .bool true) rfl (by kernel_rfl) (by kernel_rfl) (by kernel_rfl) (fun _ _ _ h => h) (Or.inl ⟨by rfl, fun w9 hSw => ?_⟩) hHeld ?_
    · (try dsimp only at hSw); go_simp
    try simp only [Act.put, List.setIfInBounds_toArray, List.set_cons_zero, List.set_cons_succ]
    refine wpAnyH_take (i := 11) (v := .bool true) rfl (by kernel_rfl) (by kernel_rfl) (by kernel_rfl) (fun _ _ _ h => h) (Or.inl ⟨by rfl, fun w9 hSw => ?_⟩) hHeld ?_
    · (try dsimp only at hSw); go_simp
    try simp only [Act.put, List.setIfInBounds_toArray, List.set_cons_zero, List.set_cons_succ]
    refine wpAnyH_take (i := 12) (v := undef) rfl (by kernel_rfl) (by kernel_rfl) (by kernel_rfl) (fun _ _ _ h => h) (Or.inr ⟨by rfl, rfl⟩) hHeld ?_
    try simp only [Act.put, List.setIfInBounds_toArray, List.set_cons_zero, List.set_cons_succ]
    refine wpAnyH_take (i := 13) (v := undef) rfl (by kernel_rfl) (by kernel_rfl) (by kernel_rfl) (fun _ _ _ h => h) (Or.inr ⟨by rfl, rfl⟩) hHeld ?_
    try simp only [Act.put, List.setIfInBounds_toArray, List.set_cons_zero, List.set_cons_succ]
    refine wpAnyH_take (i := 14) (v := undef) rfl (by kernel_rfl) (by kernel_rfl) (by kernel_rfl) (fun _ _ _ h => h) (Or.inr ⟨by rfl, rfl⟩) hHeld ?_
    try simp only [Act.put, List.setIfInBounds_toArray, List.set_cons_zero, List.set_cons_succ]
    refine wpAnyH_take (i := 15) (v := .bool true) rfl (by kernel_rfl) (by kernel_rfl) (by kernel_rfl) (fun _ _ _ h => h) (Or.inl ⟨by rfl, fun w9 hSw => ?_⟩) hHeld ?_
    · (try dsimp only at hSw); go_simp
    try simp only [Act.put, List.setIfInBounds_toArray, List.set_cons_zero, List.set_cons_succ]
    refine wpAnyH_done (by kernel_rfl) ?_ _
    go_wp2
    go_ret
    exact ⟨ret_int HR.out.symm, HB.out.trans (hb9.mono HB.out.size)⟩

end Go.Proofs.Ytdbcpnpcnkccaaa
namespace Go.Proofs.Ytdbcpnpcnkccaaa
open Go.RowKit

set_option maxRecDepth 20000 in
set_option maxHeartbeats 2000000 in
theorem rr30 (op v n a b c : Int) (A : Option Addr) (len cap : Nat) (w : World) (hk : Tm.kidn op = 3) (o1 : ¬ op < 0) (o2 : ¬ 24 < op) (hm : len ≤ maxLen) (e0 : a < 0 ∨ (len : Int) ≤ a) :
    Calls Try.prog 44 #[.agg #[.int .i64 op, .int .i64 v, .int .u64 n, .int .i64 a, .int .i64 b, .int .i64 c], .slice A len cap] w fun e w' => e = .returned (.int .i64 9) ∧ Below w.heap.size w w' := by
  unfold maxLen at hm
  have HK := Lib.hid hk
  clear hk
  rcases e0 with e0 | e0
  all_goals
    go_enter Try.func44, Try.ntmps44
    go_wp2_with (go_at_call 20; refine (rkids_any _ _).mono ?_; rintro e w' ⟨rfl, rfl⟩; rw [HK.out])
    refine wp_loop_rounds 4 ?_
    rw [rounds_succ]; go_wp2_with (go_at_call 20; refine (rkids_any _ _).mono ?_; rintro e w' ⟨rfl, rfl⟩; rw [HK.out])
    go_ret
    exact ⟨rfl, ((Below.refl _ _).alloc (Nat.le_refl _) _).alloc (by simp) _⟩

set_option maxRecDepth 20000 in
set_option maxHeartbeats 2000000 in
theorem rr31 (op v n b c : Int) (g o : Nat) (len cap : Nat) (w : World) (hk : Tm.kidn op = 3) (o1 : ¬ op < 0) (o2 : ¬ 24 < op) (hm : len ≤ maxLen) (hg : g < w.heap.size) (i0 : Nat) (v0 : Int) (l0 : i0 < len) (q0 : w.cell? ⟨g, o + i0 * 6 + 1, none⟩ = some (.int .i64 v0)) (e1 : b < 0 ∨ (len : Int) ≤ b) :
    Calls Try.prog 44 #[.agg #[.int .i64 op, .int .i64 v, .int .u64 n, .int .i64 (i0 : Nat), .int .i64 b, .int .i64 c], .slice (some ⟨g, o, none⟩) len cap] w fun e w' => e = .returned (.int .i64 9) ∧ Below w.heap.size w w' := by
  unfold maxLen at hm
  have HK := Lib.hid hk
  clear hk
  have l0' : ¬ (len : Int) ≤ i0 := by omega
  have m1 : g < w.heap.size + 1 := by omega
  have m2 : g < w.heap.size + 1 + 1 := by omega
  rcases e1 with e1 | e1
  all_goals
    go_enter Try.func44, Try.ntmps44
    go_wp2_with (go_at_call 20; refine (rkids_any _ _).mono ?_; rintro e w' ⟨rfl, rfl⟩; rw [HK.out])
    refine wp_loop_rounds 4 ?_
    rw [rounds_succ]; go_wp2_with (go_at_call 20; refine (rkids_any _ _).mono ?_; rintro e w' ⟨rfl, rfl⟩; rw [HK.out])
    rw [rounds_succ]; go_wp2_with (go_at_call 20; refine (rkids_any _ _).mono ?_; rintro e w' ⟨rfl, rfl⟩; rw [HK.out])
    go_ret
    exact ⟨rfl, ((Below.refl _ _).alloc (Nat.le_refl _) _).alloc (by simp) _⟩

set_option maxRecDepth 20000 in
set_option maxHeartbeats 2000000 in
theorem rr32 (op v n c : Int) (g o : Nat) (len cap : Nat) (w : World) (hk : Tm.kidn op = 3) (o1 : ¬ op < 0) (o2 : ¬ 24 < op) (hm : len ≤ maxLen) (hg : g < w.heap.size) (i0 : Nat) (v0 : Int) (l0 : i0 < len) (q0 : w.cell? ⟨g, o + i0 * 6 + 1, none⟩ = some (.int .i64 v0)) (i1 : Nat) (v1 : Int) (l1 : i1 < len) (q1 : w.cell? ⟨g, o + i1 * 6 + 1, none⟩ = some (.int .i64 v1)) (e2 : c < 0 ∨ (len : Int) ≤ c) :
    Calls Try.prog 44 #[.agg #[.int .i64 op, .int .i64 v, .int .u64 n, .int .i64 (i0 : Nat), .int .i64 (i1 : Nat), .int .i64 c], .slice (some ⟨g, o, none⟩) len cap] w fun e w' => e = .returned (.int .i64 9) ∧ Below w.heap.size w w' := by
  unfold maxLen at hm
  have HK := Lib.hid hk
  clear hk
  have l0' : ¬ (len : Int) ≤ i0 := by omega
  have l1' : ¬ (len : Int) ≤ i1 := by omega
  have m1 : g < w.heap.size + 1 := by omega
  have m2 : g < w.heap.size + 1 + 1 := by omega
  rcases e2 with e2 | e2
  all_goals
    go_enter Try.func44, Try.ntmps44
    go_wp2_with (go_at_call 20; refine (rkids_any _ _).mono ?_; rintro e w' ⟨rfl, rfl⟩; rw [HK.out])
    refine wp_loop_rounds 4 ?_
    rw [rounds_succ]; go_wp2_with (go_at_call 20; refine (rkids_any _ _).mono ?_; rintro e w' ⟨rfl, rfl⟩; rw [HK.out])
    rw [rounds_succ]; go_wp2_with (go_at_call 20; refine (rkids_any _ _).mono ?_; rintro e w' ⟨rfl, rfl⟩; rw [HK.out])
    rw [rounds_succ]; go_wp2_with (go_at_call 20; refine (rkids_any _ _).mono ?_; rintro e w' ⟨rfl, rfl⟩; rw [HK.out])
    go_ret
    exact ⟨rfl, ((Below.refl _ _).alloc (Nat.le_refl _) _).alloc (by simp) _⟩

set_option maxRecDepth 20000 in
set_option maxHeartbeats 2000000 in
theorem rr33 (op v n : Int) (g o : Nat) (len cap : Nat) (w : World) (hk : Tm.kidn op = 3) (o1 : ¬ op < 0) (o2 : ¬ 24 < op) (hm : len ≤ maxLen) (hg : g < w.heap.size) (i0 : Nat) (v0 : Int) (l0 : i0 < len) (q0 : w.cell? ⟨g, o + i0 * 6 + 1, none⟩ = some (.int .i64 v0)) (i1 : Nat) (v1 : Int) (l1 : i1 < len) (q1 : w.cell? ⟨g, o + i1 * 6 + 1, none⟩ = some (.int .i64 v1)) (i2 : Nat) (v2 : Int) (l2 : i2 < len) (q2 : w.cell? ⟨g, o + i2 * 6 + 1, none⟩ = some (.int .i64 v2)) :
    Calls Try.prog 44 #[.agg #[.int .i64 op, .int .i64 v, .int .u64 n, .int .i64 (i0 : Nat), .int .i64 (i1 : Nat), .int .i64 (i2 : Nat)], .slice (some ⟨g, o, none⟩) len cap] w fun e w' => e = .returned (.int .i64 (Tm.rres op v n v0 v1 v2)) ∧ Below w.heap.size w w' := by
  unfold maxLen at hm
  have HK := Lib.hid hk
  clear hk
  have l0' : ¬ (len : Int) ≤ i0 := by omega
  have l1' : ¬ (len : Int) ≤ i1 := by omega
  have l2' : ¬ (len : Int) ≤ i2 := by omega
  have m1 : g < w.heap.size + 1 := by omega
  have m2 : g < w.heap.size + 1 + 1 := by omega
  go_enter Try.func44, Try.ntmps44
  go_wp2_with (go_at_call 20; refine (rkids_any _ _).mono ?_; rintro e w' ⟨rfl, rfl⟩; rw [HK.out])
  refine wp_loop_rounds 4 ?_
  rw [rounds_succ]; go_wp2_with (go_at_call 20; refine (rkids_any _ _).mono ?_; rintro e w' ⟨rfl, rfl⟩; rw [HK.out])
  rw [rounds_succ]; go_wp2_with (go_at_call 20; refine (rkids_any _ _).mono ?_; rintro e w' ⟨rfl, rfl⟩; rw [HK.out])
  rw [rounds_succ]; go_wp2_with (go_at_call 20; refine (rkids_any _ _).mono ?_; rintro e w' ⟨rfl, rfl⟩; rw [HK.out])
  rw [rounds_succ]; go_wp2_with (go_at_call 20; refine (rkids_any _ _).mono ?_; rintro e w' ⟨rfl, rfl⟩; rw [HK.out])
  have hS : (fun W => W.cell? ⟨w.heap.size, 0, none⟩ = some (.int .i64 op) ∧ W.cell? ⟨w.heap.size, 1, none⟩ = some (.int .i64 v) ∧ W.cell? ⟨w.heap.size, 2, none⟩ = some (.int .u64 n) ∧ W.cell? ⟨w.heap.size, 3, none⟩ = some (.int .i64 (i0 : Nat)) ∧ W.cell? ⟨w.heap.size, 4, none⟩ = some (.int .i64 (i1 : Nat)) ∧ W.cell? ⟨w.heap.size, 5, none⟩ = some (.int .i64 (i2 : Nat)) ∧ W.cell? ⟨w.heap.size + 1, 0, none⟩ = some (.int .i64 v0) ∧ W.cell? ⟨w.heap.size + 1, 1, none⟩ = some (.int .i64 v1) ∧ W.cell? ⟨w.heap.size + 1, 2, none⟩ = some (.int .i64 v2)) ((w.alloc (.cells #[.int .i64 op, .int .i64 v, .int .u64 n, .int .i64 (i0 : Nat), .int .i64 (i1 : Nat), .int .i64 (i2 : Nat)] 36)).alloc (.cells #[.int .i64 v0, .int .i64 v1, .int .i64 v2] 34)) := by simp [go_sem]
  have hB : Below w.heap.size w ((w.alloc (.cells #[.int .i64 op, .int .i64 v, .int .u64 n, .int .i64 (i0 : Nat), .int .i64 (i1 : Nat), .int .i64 (i2 : Nat)] 36)).alloc (.cells #[.int .i64 v0, .int .i64 v1, .int .i64 v2] 34)) := ((Below.refl _ _).alloc (Nat.le_refl _) _).alloc (by simp) _
  have hZ : w.heap.size + 1 < ((w.alloc (.cells #[.int .i64 op, .int .i64 v, .int .u64 n, .int .i64 (i0 : Nat), .int .i64 (i1 : Nat), .int .i64 (i2 : Nat)] 36)).alloc (.cells #[.int .i64 v0, .int .i64 v1, .int .i64 v2] 34)).heap.size := by simp
  revert hS hB hZ
  generalize ((w.alloc (.cells #[.int .i64 op, .int .i64 v, .int .u64 n, .int .i64 (i0 : Nat), .int .i64 (i1 : Nat), .int .i64 (i2 : Nat)] 36)).alloc (.cells #[.int .i64 v0, .int .i64 v1, .int .i64 v2] 34)) = U
  intro hS hB hZ
  have HB := Lib.hid (show Below w.heap.size w U.drew from hB.drew)
  have hQ := hS
  obtain ⟨c0, c1, c2, c3, c4, c5, d0, d1, d2⟩ := hS
  have HS := Lib.hid (show (fun W => W.cell? ⟨w.heap.size, 0, none⟩ = some (.int .i64 op) ∧ W.cell? ⟨w.heap.size, 1, none⟩ = some (.int .i64 v) ∧ W.cell? ⟨w.heap.size, 2, none⟩ = some (.int .u64 n) ∧ W.cell? ⟨w.heap.size, 3, none⟩ = some (.int .i64 (i0 : Nat)) ∧ W.cell? ⟨w.heap.size, 4, none⟩ = some (.int .i64 (i1 : Nat)) ∧ W.cell? ⟨w.heap.size, 5, none⟩ = some (.int .i64 (i2 : Nat)) ∧ W.cell? ⟨w.heap.size + 1, 0, none⟩ = some (.int .i64 v0) ∧ W.cell? ⟨w.heap.size + 1, 1, none⟩ = some (.int .i64 v1) ∧ W.cell? ⟨w.heap.size + 1, 2, none⟩ = some (.int .i64 v2)) U.drew from hQ)
  have HZ := Lib.hid (show w.heap.size + 1 < U.drew.heap.size from hZ)
  clear hB hQ hZ
  by_cases h1 : Tm.rwid op v v0 v1 v2 = v
  · have x1 : (Tm.rwid op v v0 v1 v2 != v) = false := by simpa using h1
    by_cases h2 : v < 0
    · have x2 : decide (v < 0) = true := decide_eq_true h2
      have HR := Lib.hid (show Tm.rres op v n v0 v1 v2 = 8 from if_pos (.inr h2))
      clear h1 h2
      go_region_held3 (fun W => W.cell? ⟨w.heap.size, 0, none⟩ = some (.int .i64 op) ∧ W.cell? ⟨w.heap.size, 1, none⟩ = some (.int .i64 v) ∧ W.cell? ⟨w.heap.size, 2, none⟩ = some (.int .u64 n) ∧ W.cell? ⟨w.heap.size, 3, none⟩ = some (.int .i64 (i0 : Nat)) ∧ W.cell? ⟨w.heap.size, 4, none⟩ = some (.int .i64 (i1 : Nat)) ∧ W.cell? ⟨w.heap.size, 5, none⟩ = some (.int .i64 (i2 : Nat)) ∧ W.cell? ⟨w.heap.size + 1, 0, none⟩ = some (.int .i64 v0) ∧ W.cell? ⟨w.heap.size + 1, 1, none⟩ = some (.int .i64 v1) ∧ W.cell? ⟨w.heap.size + 1, 2, none⟩ = some (.int .i64 v2))
        (first | with_reducible exact HS.out | with_reducible exact nine_keep (by assumption) HZ.out HS.out)
        (first | (go_at_call 66; (with_reducible refine (rwidth_any _ _ _ _ _ _ _ _ _ _).mono ?_); rintro e v9 ⟨rfl, hb9⟩))
      go_wp2
      go_ret
      exact ⟨ret_int HR.out.symm, HB.out.trans (hb9.mono HB.out.size)⟩
    · have x2 : decide (v < 0) = false := decide_eq_false h2
      have HR := Lib.hid (show Tm.rres op v n v0 v1 v2 = (if Tm.mst op v < n then 3 else 0) from if_neg (by omega))
      clear h1 h2
      go_region_held3 (fun W => W.cell? ⟨w.heap.size, 0, none⟩ = some (.int .i64 op) ∧ W.cell? ⟨w.heap.size, 1, none⟩ = some (.int .i64 v) ∧ W.cell? ⟨w.heap.size, 2, none⟩ = some (.int .u64 n) ∧ W.cell? ⟨w.heap.size, 3, none⟩ = some (.int .i64 (i0 : Nat)) ∧ W.cell? ⟨w.heap.size, 4, none⟩ = some (.int .i64 (i1 : Nat)) ∧ W.cell? ⟨w.heap.size, 5, none⟩ = some (.int .i64 (i2 : Nat)) ∧ W.cell? ⟨w.heap.size + 1, 0, none⟩ = some (.int .i64 v0) ∧ W.cell? ⟨w.heap.size + 1, 1, none⟩ = some (.int .i64 v1) ∧ W.cell? ⟨w.heap.size + 1, 2, none⟩ = some (.int .i64 v2))
        (first | with_reducible exact HS.out | with_reducible exact nine_keep (by assumption) HZ.out HS.out)
        (first | (go_at_call 66; (with_reducible refine (rwidth_any _ _ _ _ _ _ _ _ _ _).mono ?_); rintro e v9 ⟨rfl, hb9⟩))
      have HS9 := Lib.hid (show (fun W => W.cell? ⟨w.heap.size, 0, none⟩ = some (.int .i64 op) ∧ W.cell? ⟨w.heap.size, 1, none⟩ = some (.int .i64 v) ∧ W.cell? ⟨w.heap.size, 2, none⟩ = some (.int .u64 n) ∧ W.cell? ⟨w.heap.size, 3, none⟩ = some (.int .i64 (i0 : Nat)) ∧ W.cell? ⟨w.heap.size, 4, none⟩ = some (.int .i64 (i1 : Nat)) ∧ W.cell? ⟨w.heap.size, 5, none⟩ = some (.int .i64 (i2 : Nat)) ∧ W.cell? ⟨w.heap.size + 1, 0, none⟩ = some (.int .i64 v0) ∧ W.cell? ⟨w.heap.size + 1, 1, none⟩ = some (.int .i64 v1) ∧ W.cell? ⟨w.heap.size + 1, 2, none⟩ = some (.int .i64 v2)) v9.drew from (show (fun W => W.cell? ⟨w.heap.size, 0, none⟩ = some (.int .i64 op) ∧ W.cell? ⟨w.heap.size, 1, none⟩ = some (.int .i64 v) ∧ W.cell? ⟨w.heap.size, 2, none⟩ = some (.int .u64 n) ∧ W.cell? ⟨w.heap.size, 3, none⟩ = some (.int .i64 (i0 : Nat)) ∧ W.cell? ⟨w.heap.size, 4, none⟩ = some (.int .i64 (i1 : Nat)) ∧ W.cell? ⟨w.heap.size, 5, none⟩ = some (.int .i64 (i2 : Nat)) ∧ W.cell? ⟨w.heap.size + 1, 0, none⟩ = some (.int .i64 v0) ∧ W.cell? ⟨w.heap.size + 1, 1, none⟩ = some (.int .i64 v1) ∧ W.cell? ⟨w.heap.size + 1, 2, none⟩ = some (.int .i64 v2)) v9 from nine_keep hb9 HZ.out HS.out))
      have HB9 := Lib.hid (show Below w.heap.size w v9.drew from (HB.out.trans (hb9.mono HB.out.size)).drew)
      have HZ9 := Lib.hid (show w.heap.size + 1 < v9.drew.heap.size from Nat.lt_of_lt_of_le HZ.out hb9.size)
      clear hb9 c0 c1 c2 c3 c4 c5 d0 d1 d2 HS HB HZ
      obtain ⟨c0, c1, c2, c3, c4, c5, d0, d1, d2⟩ := (show (fun W => W.cell? ⟨w.heap.size, 0, none⟩ = some (.int .i64 op) ∧ W.cell? ⟨w.heap.size, 1, none⟩ = some (.int .i64 v) ∧ W.cell? ⟨w.heap.size, 2, none⟩ = some (.int .u64 n) ∧ W.cell? ⟨w.heap.size, 3, none⟩ = some (.int .i64 (i0 : Nat)) ∧ W.cell? ⟨w.heap.size, 4, none⟩ = some (.int .i64 (i1 : Nat)) ∧ W.cell? ⟨w.heap.size, 5, none⟩ = some (.int .i64 (i2 : Nat)) ∧ W.cell? ⟨w.heap.size + 1, 0, none⟩ = some (.int .i64 v0) ∧ W.cell? ⟨w.heap.size + 1, 1, none⟩ = some (.int .i64 v1) ∧ W.cell? ⟨w.heap.size + 1, 2, none⟩ = some (.int .i64 v2)) v9 from HS9.out)
      by_cases h3 : Tm.mst op v < n
      · have x3 : decide (Tm.mst op v < n) = true := decide_eq_true h3
        have HR3 := Lib.hid (HR.out.trans (if_pos h3))
        clear h3
        go_wp2_with fail
        go_region_held3 (fun W => W.cell? ⟨w.heap.size, 0, none⟩ = some (.int .i64 op) ∧ W.cell? ⟨w.heap.size, 1, none⟩ = some (.int .i64 v) ∧ W.cell? ⟨w.heap.size, 2, none⟩ = some (.int .u64 n) ∧ W.cell? ⟨w.heap.size, 3, none⟩ = some (.int .i64 (i0 : Nat)) ∧ W.cell? ⟨w.heap.size, 4, none⟩ = some (.int .i64 (i1 : Nat)) ∧ W.cell? ⟨w.heap.size, 5, none⟩ = some (.int .i64 (i2 : Nat)) ∧ W.cell? ⟨w.heap.size + 1, 0, none⟩ = some (.int .i64 v0) ∧ W.cell? ⟨w.heap.size + 1, 1, none⟩ = some (.int .i64 v1) ∧ W.cell? ⟨w.heap.size + 1, 2, none⟩ = some (.int .i64 v2))
          (first | with_reducible exact HS9.out | with_reducible exact nine_keep (by assumption) HZ9.out HS9.out)
          (first | (go_at_call 67; (with_reducible refine (most_any _ _ _ _ _ _ _).mono ?_); rintro e v8 ⟨rfl, hb8⟩))
        go_wp2
        go_ret
        exact ⟨ret_int HR3.out.symm, HB9.out.trans (hb8.mono HB9.out.size)⟩
      · have x3 : decide (Tm.mst op v < n) = false := decide_eq_false h3
        have HR3 := Lib.hid (HR.out.trans (if_neg h3))
        clear h3
        go_wp2_with fail
        go_region_held3 (fun W => W.cell? ⟨w.heap.size, 0, none⟩ = some (.int .i64 op) ∧ W.cell? ⟨w.heap.size, 1, none⟩ = some (.int .i64 v) ∧ W.cell? ⟨w.heap.size, 2, none⟩ = some (.int .u64 n) ∧ W.cell? ⟨w.heap.size, 3, none⟩ = some (.int .i64 (i0 : Nat)) ∧ W.cell? ⟨w.heap.size, 4, none⟩ = some (.int .i64 (i1 : Nat)) ∧ W.cell? ⟨w.heap.size, 5, none⟩ = some (.int .i64 (i2 : Nat)) ∧ W.cell? ⟨w.heap.size + 1, 0, none⟩ = some (.int .i64 v0) ∧ W.cell? ⟨w.heap.size + 1, 1, none⟩ = some (.int .i64 v1) ∧ W.cell? ⟨w.heap.size + 1, 2, none⟩ = some (.int .i64 v2))
          (first | with_reducible exact HS9.out | with_reducible exact nine_keep (by assumption) HZ9.out HS9.out)
          (first | (go_at_call 67; (with_reducible refine (most_any _ _ _ _ _ _ _).mono ?_); rintro e v8 ⟨rfl, hb8⟩))
        go_wp2
        go_ret
        exact ⟨ret_int HR3.out.symm, HB9.out.trans (hb8.mono HB9.out.size)⟩
  · have x1 : (Tm.rwid op v v0 v1 v2 != v) = true := by simpa using h1
    have HR := Lib.hid (show Tm.rres op v n v0 v1 v2 = 8 from if_pos (.inl h1))
    have x3 : (Tm.rwid op v v0 v1 v2 == v) = false := by simpa using h1
    clear h1
    refine wp_region_held_drew (S := fun W => W.cell? ⟨w.heap.size, 0, none⟩ = some (.int .i64 op) ∧ W.cell? ⟨w.heap.size, 1, none⟩ = some (.int .i64 v) ∧ W.cell? ⟨w.heap.size, 2, none⟩ = some (.int .u64 n) ∧ W.cell? ⟨w.heap.size, 3, none⟩ = some (.int .i64 (i0 : Nat)) ∧ W.cell? ⟨w.heap.size, 4, none⟩ = some (.int .i64 (i1 : Nat)) ∧ W.cell? ⟨w.heap.size, 5, none⟩ = some (.int .i64 (i2 : Nat)) ∧ W.cell? ⟨w.heap.size + 1, 0, none⟩ = some (.int .i64 v0) ∧ W.cell? ⟨w.heap.size + 1, 1, none⟩ = some (.int .i64 v1) ∧ W.cell? ⟨w.heap.size + 1, 2, none⟩ = some (.int .i64 v2)) (by kernel_rfl) HS.out (fun hHeld => ?_)
    refine wpAnyH_take (i := 0) (v := .agg #[.int .i64 op, .int .i64 v, .int .u64 n, .int .i64 (i0 : Nat), .int .i64 (i1 : Nat), .int .i64 (i2 : Nat)]) rfl (by kernel_rfl) (by kernel_rfl) (by kernel_rfl) (fun _ _ _ h => h) (Or.inl ⟨by rfl, fun w9 hSw => ?_⟩) hHeld ?_
    · (try dsimp only at hSw); go_simp
    try simp only [Act.put, List.setIfInBounds_toArray, List.set_cons_zero, List.set_cons_succ]
    refine wpAnyH_take (i := 1) (v := .pointer (some ⟨w.heap.size + 1, 0, none⟩)) rfl (by kernel_rfl) (by kernel_rfl) (by kernel_rfl) (fun _ _ _ h => h) (Or.inl ⟨by rfl, fun w9 hSw => ?_⟩) hHeld ?_
    · (try dsimp only at hSw); go_simp
    try simp only [Act.put, List.setIfInBounds_toArray, List.set_cons_zero, List.set_cons_succ]
    refine wpAnyH_take (i := 2) (v := .int .i64 v0) rfl (by kernel_rfl) (by kernel_rfl) (by kernel_rfl) (fun _ _ _ h => h) (Or.inl ⟨by rfl, fun w9 hSw => ?_⟩) hHeld ?_
    · (try dsimp only at hSw); go_simp
    try simp only [Act.put, List.setIfInBounds_toArray, List.set_cons_zero, List.set_cons_succ]
    refine wpAnyH_take (i := 3) (v := .pointer (some ⟨w.heap.size + 1, 1, none⟩)) rfl (by kernel_rfl) (by kernel_rfl) (by kernel_rfl) (fun _ _ _ h => h) (Or.inl ⟨by rfl, fun w9 hSw => ?_⟩) hHeld ?_
    · (try dsimp only at hSw); go_simp
    try simp only [Act.put, List.setIfInBounds_toArray, List.set_cons_zero, List.set_cons_succ]
    refine wpAnyH_take (i := 4) (v := .int .i64 v1) rfl (by kernel_rfl) (by kernel_rfl) (by kernel_rfl) (fun _ _ _ h => h) (Or.inl ⟨by rfl, fun w9 hSw => ?_⟩) hHeld ?_
    · (try dsimp only at hSw); go_simp
    try simp only [Act.put, List.setIfInBounds_toArray, List.set_cons_zero, List.set_cons_succ]
    refine wpAnyH_take (i := 5) (v := .pointer (some ⟨w.heap.size + 1, 2, none⟩)) rfl (by kernel_rfl) (by kernel_rfl) (by kernel_rfl) (fun _ _ _ h => h) (Or.inl ⟨by rfl, fun w9 hSw => ?_⟩) hHeld ?_
    · (try dsimp only at hSw); go_simp
    try simp only [Act.put, List.setIfInBounds_toArray, List.set_cons_zero, List.set_cons_succ]
    refine wpAnyH_take (i := 6) (v := .int .i64 v2) rfl (by kernel_rfl) (by kernel_rfl) (by kernel_rfl) (fun _ _ _ h => h) (Or.inl ⟨by rfl, fun w9 hSw => ?_⟩) hHeld ?_
    · (try dsimp only at hSw); go_simp
    try simp only [Act.put, List.setIfInBounds_toArray, List.set_cons_zero, List.set_cons_succ]
    refine wpAnyH_take (i := 8) (v := .pointer (some ⟨w.heap.size, 1, none⟩)) rfl (by kernel_rfl) (by kernel_rfl) (by kernel_rfl) (fun _ _ _ h => h) (Or.inl ⟨by rfl, fun w9 hSw => ?_⟩) hHeld ?_
    · (try dsimp only at hSw); go_simp
    try simp only [Act.put, List.setIfInBounds_toArray, List.set_cons_zero, List.set_cons_succ]
    refine wpAnyH_take (i := 9) (v := .int .i64 v) rfl (by kernel_rfl) (by kernel_rfl) (by kernel_rfl) (fun _ _ _ h => h) (Or.inl ⟨by rfl, fun w9 hSw => ?_⟩) hHeld ?_
    · (try dsimp only at hSw); go_simp
    try simp only [Act.put, List.setIfInBounds_toArray, List.set_cons_zero, List.set_cons_succ]
    refine wpAnyH_ready (rs := [7]) (by kernel_rfl) (by simp) ?_
    refine AllReadyH.cons rfl (fun K hK => ?_) AllReadyH.nil
    go_simp
    go_at_call 66
    (with_reducible refine (rwidth_any _ _ _ _ _ _ _ _ _ _).mono ?_)
    rintro e v9 ⟨rfl, hb9⟩
    go_wp2_with fail
    refine hK.out _ _ (nine_keep hb9 HZ.out HS.out) (fun hHeld => ?_)
    clear hK K
    try simp only [Act.put, List.setIfInBounds_toArray, List.set_cons_zero, List.set_cons_succ]
    refine wpAnyH_take (i := 10) (v := .bool true) rfl (by kernel_rfl) (by kernel_rfl) (by kernel_rfl) (fun _ _ _ h => h) (Or.inl ⟨by rfl, fun w9 hSw => ?_⟩) hHeld ?_
    · (try dsimp only at hSw); go_simp
    try simp only [Act.put, List.setIfInBounds_toArray, List.set_cons_zero, List.set_cons_succ]
    refine wpAnyH_take (i := 11) (v := .bool true) rfl (by kernel_rfl) (by kernel_rfl) (by kernel_rfl) (fun _ _ _ h => h) (Or.inl ⟨by rfl, fun w9 hSw => ?_⟩) hHeld ?_
    · (try dsimp only at hSw); go_simp
    try simp only [Act.put, List.setIfInBounds_toArray, List.set_cons_zero, List.set_cons_succ]
    refine wpAnyH_take (i := 12) (v := undef) rfl (by kernel_rfl) (by kernel_rfl) (by kernel_rfl) (fun _ _ _ h => h) (Or.inr ⟨by rfl, rfl⟩) hHeld ?_
    try simp only [Act.put, List.setIfInBounds_toArray, List.set_cons_zero, List.set_cons_succ]
    refine wpAnyH_take (i := 13) (v := undef) rfl (by kernel_rfl) (by kernel_rfl) (by kernel_rfl) (fun _ _ _ h => h) (Or.inr ⟨by rfl, rfl⟩) hHeld ?_
    try simp only [Act.put, List.setIfInBounds_toArray, List.set_cons_zero, List.set_cons_succ]
    refine wpAnyH_take (i := 14) (v := undef) rfl (by kernel_rfl) (by kernel_rfl) (by kernel_rfl) (fun _ _ _ h => h) (Or.inr ⟨by rfl, rfl⟩) hHeld ?_
    try simp only [Act.put, List.setIfInBounds_toArray, List.set_cons_zero, List.set_cons_succ]
    refine wpAnyH_take (i := 15) (v := .bool true) rfl (by kernel_rfl) (by kernel_rfl) (by kernel_rfl) (fun _ _ _ h => h) (Or.inl ⟨by rfl, fun w9 hSw => ?_⟩) hHeld ?_
    · (try dsimp only at hSw); go_simp
    try simp only [Act.put, List.setIfInBounds_toArray, List.set_cons_zero, List.set_cons_succ]
    refine wpAnyH_done (by kernel_rfl) ?_ _
    go_wp2
    go_ret
    exact ⟨ret_int HR.out.symm, HB.out.trans (hb9.mono HB.out.size)⟩

end Go.Proofs.Ytdbcpnpcnkccaaa
namespace Go.Proofs.Ytdbcpnpcnkccaaa
open Go.RowKit

theorem Tm.flt_kid {nd : Tm.Nd} {len : Nat} {X : List Tm.Nd} (ho : ¬ (nd.op < 0 ∨ 24 < nd.op)) (hk : Tm.kok nd len = false) : Tm.flt nd len X = 9 := by rw [Tm.flt, if_neg ho, if_pos hk]
theorem Tm.flt_res {nd : Tm.Nd} {len : Nat} {X : List Tm.Nd} {x y u : Int} (ho : ¬ (nd.op < 0 ∨ 24 < nd.op)) (hk : Tm.kok nd len = true) (h0 : 0 ≤ nd.n) (h1 : nd.n < 18446744073709551616) (hx : 0 ≤ x) (hy : 0 ≤ y)
    (ex : Tm.w0 nd X = x) (ey : Tm.w1 nd X = y) (eu : Tm.w2 nd X = u) : Tm.flt nd len X = Tm.rres nd.op nd.w nd.n x y u := by
  subst ex ey eu
  rw [Tm.flt, if_neg ho, if_neg (by rw [hk]; simp), Tm.rres]
  have a := Tm.wok_ref (op := nd.op) (w := nd.w) (v := Tm.w2 nd X) hx hy
  have b := Tm.nok_ref (op := nd.op) (w := nd.w) h0 (by omega)
  by_cases c : Tm.rwid nd.op nd.w (Tm.w0 nd X) (Tm.w1 nd X) (Tm.w2 nd X) ≠ nd.w ∨ nd.w < 0
  · rw [if_pos c, if_pos (by rw [← Bool.not_eq_true, a]; exact fun h => h c)]
  · rw [if_neg c, if_neg (by rw [a.2 c]; simp)]
    by_cases d : Tm.mst nd.op nd.w < nd.n
    · rw [if_pos d, if_pos (by rw [← Bool.not_eq_true, b]; exact fun h => h d)]
    · rw [if_neg d, if_neg (by rw [b.2 d]; simp)]

set_option maxRecDepth 20000 in
set_option maxHeartbeats 1000000 in
theorem rr_op (op v n a b c : Int) (A : Option Addr) (len cap : Nat) (w : World) (ho : op < 0 ∨ 24 < op) :
    Calls Try.prog 44 #[.agg #[.int .i64 op, .int .i64 v, .int .u64 n, .int .i64 a, .int .i64 b, .int .i64 c], .slice A len cap] w fun e w' => e = .returned (.int .i64 4) ∧ Below w.heap.size w w' := by
  go_enter Try.func44, Try.ntmps44
  go_wp2
  all_goals
    try (exfalso; omega)
    go_ret
    exact ⟨rfl, Below.box _ _⟩

set_option maxHeartbeats 1000000 in
theorem right_any (op v n a b c : Int) (A : Option Addr) (len cap : Nat) (X : List Tm.Nd) (w : World) (h : NdR w A len cap X) (h0 : 0 ≤ n) (h1 : n < 18446744073709551616) (hw : ∀ j, j < len → 0 ≤ (X.getD j Tm.z).w) :
    Calls Try.prog 44 #[.agg #[.int .i64 op, .int .i64 v, .int .u64 n, .int .i64 a, .int .i64 b, .int .i64 c], .slice A len cap] w fun e w' => e = .returned (.int .i64 (Tm.flt ⟨op, v, n, a, b, c⟩ len X)) ∧ Below w.heap.size w w' := by
  by_cases ho : op < 0 ∨ 24 < op
  · exact (rr_op op v n a b c A len cap w ho).mono fun e w' ⟨he, hb⟩ => ⟨he.trans (ret_int (by rw [Tm.flt, if_pos ho])), hb⟩
  have o1 : ¬ op < 0 := by omega
  have o2 : ¬ 24 < op := by omega
  have hm : len ≤ maxLen := Nat.le_trans h.hle h.hcap
  have h4 : Tm.kidn op = 0 ∨ Tm.kidn op = 1 ∨ Tm.kidn op = 2 ∨ Tm.kidn op = 3 := by have := Tm.kidn_le op; omega
  rcases h4 with hk | hk | hk | hk
  · by_cases t0 : a = 0
    · have e0 : (a != 0) = false := by simp [t0]
      have hW0 : (0 : Int) ≤ 0 := Int.le_refl 0
      by_cases t1 : b = 0
      · have e1 : (b != 0) = false := by simp [t1]
        have hW1 : (0 : Int) ≤ 0 := Int.le_refl 0
        by_cases t2 : c = 0
        · have e2 : (c != 0) = false := by simp [t2]
          have hkk : Tm.kok ⟨op, v, n, a, b, c⟩ len = true := by simp [Tm.kok, hk, t0, t1, t2]
          exact (rr03 op v n a b c A len cap w hk o1 o2 hm e0 e1 e2).mono fun e w' ⟨he, hb⟩ => ⟨he.trans (ret_int (Tm.flt_res ho hkk h0 h1 hW0 hW1 (by simp [Tm.w0, hk, Tm.wd]) (by simp [Tm.w1, hk, Tm.wd]) (by simp [Tm.w2, hk, Tm.wd])).symm), hb⟩
        · have e2 : (c != 0) = true := by simpa using t2
          have hkk : Tm.kok ⟨op, v, n, a, b, c⟩ len = false := by simp [Tm.kok, hk, t0, t1, t2]
          exact (rr02 op v n a b c A len cap w hk o1 o2 hm e0 e1 e2).mono fun e w' ⟨he, hb⟩ => ⟨he.trans (ret_int (Tm.flt_kid ho hkk).symm), hb⟩
      · have e1 : (b != 0) = true := by simpa using t1
        have hkk : Tm.kok ⟨op, v, n, a, b, c⟩ len = false := by simp [Tm.kok, hk, t0, t1]
        exact (rr01 op v n a b c A len cap w hk o1 o2 hm e0 e1).mono fun e w' ⟨he, hb⟩ => ⟨he.trans (ret_int (Tm.flt_kid ho hkk).symm), hb⟩
    · have e0 : (a != 0) = true := by simpa using t0
      have hkk : Tm.kok ⟨op, v, n, a, b, c⟩ len = false := by simp [Tm.kok, hk, t0]
      exact (rr00 op v n a b c A len cap w hk o1 o2 hm e0).mono fun e w' ⟨he, hb⟩ => ⟨he.trans (ret_int (Tm.flt_kid ho hkk).symm), hb⟩
  · by_cases t0 : Tm.inn a len = true
    · obtain ⟨s0, r0⟩ := Tm.inn_iff.1 t0
      obtain ⟨i0, rfl⟩ := Int.eq_ofNat_of_zero_le s0
      obtain ⟨g, o, rfl, hg, hx⟩ := h.mem (by omega)
      have q0 := (hx i0 (by omega)).2.1
      have hW0 := hw i0 (by omega)
      by_cases t1 : b = 0
      · have e1 : (b != 0) = false := by simp [t1]
        have hW1 : (0 : Int) ≤ 0 := Int.le_refl 0
        by_cases t2 : c = 0
        · have e2 : (c != 0) = false := by simp [t2]
          have hkk : Tm.kok ⟨op, v, n, ((i0 : Nat) : Int), b, c⟩ len = true := by simp [Tm.kok, hk, t0, t1, t2]
          exact (rr13 op v n b c g o len cap w hk o1 o2 hm hg i0 _ (by omega) q0 e1 e2).mono fun e w' ⟨he, hb⟩ => ⟨he.trans (ret_int (Tm.flt_res ho hkk h0 h1 hW0 hW1 (by simp [Tm.w0, hk, Tm.wd]) (by simp [Tm.w1, hk, Tm.wd]) (by simp [Tm.w2, hk, Tm.wd])).symm), hb⟩
        · have e2 : (c != 0) = true := by simpa using t2
          have hkk : Tm.kok ⟨op, v, n, ((i0 : Nat) : Int), b, c⟩ len = false := by simp [Tm.kok, hk, t0, t1, t2]
          exact (rr12 op v n b c g o len cap w hk o1 o2 hm hg i0 _ (by omega) q0 e1 e2).mono fun e w' ⟨he, hb⟩ => ⟨he.trans (ret_int (Tm.flt_kid ho hkk).symm), hb⟩
      · have e1 : (b != 0) = true := by simpa using t1
        have hkk : Tm.kok ⟨op, v, n, ((i0 : Nat) : Int), b, c⟩ len = false := by simp [Tm.kok, hk, t0, t1]
        exact (rr11 op v n b c g o len cap w hk o1 o2 hm hg i0 _ (by omega) q0 e1).mono fun e w' ⟨he, hb⟩ => ⟨he.trans (ret_int (Tm.flt_kid ho hkk).symm), hb⟩
    · have t0 : Tm.inn a len = false := by simpa using t0
      have e0 : a < 0 ∨ (len : Int) ≤ a := by have := mt Tm.inn_iff.2 (by rw [t0]; simp); omega
      have hkk : Tm.kok ⟨op, v, n, a, b, c⟩ len = false := by simp [Tm.kok, hk, t0]
      exact (rr10 op v n a b c A len cap w hk o1 o2 hm e0).mono fun e w' ⟨he, hb⟩ => ⟨he.trans (ret_int (Tm.flt_kid ho hkk).symm), hb⟩
  · by_cases t0 : Tm.inn a len = true
    · obtain ⟨s0, r0⟩ := Tm.inn_iff.1 t0
      obtain ⟨i0, rfl⟩ := Int.eq_ofNat_of_zero_le s0
      obtain ⟨g, o, rfl, hg, hx⟩ := h.mem (by omega)
      have q0 := (hx i0 (by omega)).2.1
      have hW0 := hw i0 (by omega)
      by_cases t1 : Tm.inn b len = true
      · obtain ⟨s1, r1⟩ := Tm.inn_iff.1 t1
        obtain ⟨i1, rfl⟩ := Int.eq_ofNat_of_zero_le s1
        have q1 := (hx i1 (by omega)).2.1
        have hW1 := hw i1 (by omega)
        by_cases t2 : c = 0
        · have e2 : (c != 0) = false := by simp [t2]
          have hkk : Tm.kok ⟨op, v, n, ((i0 : Nat) : Int), ((i1 : Nat) : Int), c⟩ len = true := by simp [Tm.kok, hk, t0, t1, t2]
          exact (rr23 op v n c g o len cap w hk o1 o2 hm hg i0 _ (by omega) q0 i1 _ (by omega) q1 e2).mono fun e w' ⟨he, hb⟩ => ⟨he.trans (ret_int (Tm.flt_res ho hkk h0 h1 hW0 hW1 (by simp [Tm.w0, hk, Tm.wd]) (by simp [Tm.w1, hk, Tm.wd]) (by simp [Tm.w2, hk, Tm.wd])).symm), hb⟩
        · have e2 : (c != 0) = true := by simpa using t2
          have hkk : Tm.kok ⟨op, v, n, ((i0 : Nat) : Int), ((i1 : Nat) : Int), c⟩ len = false := by simp [Tm.kok, hk, t0, t1, t2]
          exact (rr22 op v n c g o len cap w hk o1 o2 hm hg i0 _ (by omega) q0 i1 _ (by omega) q1 e2).mono fun e w' ⟨he, hb⟩ => ⟨he.trans (ret_int (Tm.flt_kid ho hkk).symm), hb⟩
      · have t1 : Tm.inn b len = false := by simpa using t1
        have e1 : b < 0 ∨ (len : Int) ≤ b := by have := mt Tm.inn_iff.2 (by rw [t1]; simp); omega
        have hkk : Tm.kok ⟨op, v, n, ((i0 : Nat) : Int), b, c⟩ len = false := by simp [Tm.kok, hk, t0, t1]
        exact (rr21 op v n b c g o len cap w hk o1 o2 hm hg i0 _ (by omega) q0 e1).mono fun e w' ⟨he, hb⟩ => ⟨he.trans (ret_int (Tm.flt_kid ho hkk).symm), hb⟩
    · have t0 : Tm.inn a len = false := by simpa using t0
      have e0 : a < 0 ∨ (len : Int) ≤ a := by have := mt Tm.inn_iff.2 (by rw [t0]; simp); omega
      have hkk : Tm.kok ⟨op, v, n, a, b, c⟩ len = false := by simp [Tm.kok, hk, t0]
      exact (rr20 op v n a b c A len cap w hk o1 o2 hm e0).mono fun e w' ⟨he, hb⟩ => ⟨he.trans (ret_int (Tm.flt_kid ho hkk).symm), hb⟩
  · by_cases t0 : Tm.inn a len = true
    · obtain ⟨s0, r0⟩ := Tm.inn_iff.1 t0
      obtain ⟨i0, rfl⟩ := Int.eq_ofNat_of_zero_le s0
      obtain ⟨g, o, rfl, hg, hx⟩ := h.mem (by omega)
      have q0 := (hx i0 (by omega)).2.1
      have hW0 := hw i0 (by omega)
      by_cases t1 : Tm.inn b len = true
      · obtain ⟨s1, r1⟩ := Tm.inn_iff.1 t1
        obtain ⟨i1, rfl⟩ := Int.eq_ofNat_of_zero_le s1
        have q1 := (hx i1 (by omega)).2.1
        have hW1 := hw i1 (by omega)
        by_cases t2 : Tm.inn c len = true
        · obtain ⟨s2, r2⟩ := Tm.inn_iff.1 t2
          obtain ⟨i2, rfl⟩ := Int.eq_ofNat_of_zero_le s2
          have q2 := (hx i2 (by omega)).2.1
          have hkk : Tm.kok ⟨op, v, n, ((i0 : Nat) : Int), ((i1 : Nat) : Int), ((i2 : Nat) : Int)⟩ len = true := by simp [Tm.kok, hk, t0, t1, t2]
          exact (rr33 op v n g o len cap w hk o1 o2 hm hg i0 _ (by omega) q0 i1 _ (by omega) q1 i2 _ (by omega) q2).mono fun e w' ⟨he, hb⟩ => ⟨he.trans (ret_int (Tm.flt_res ho hkk h0 h1 hW0 hW1 (by simp [Tm.w0, hk, Tm.wd]) (by simp [Tm.w1, hk, Tm.wd]) (by simp [Tm.w2, hk, Tm.wd])).symm), hb⟩
        · have t2 : Tm.inn c len = false := by simpa using t2
          have e2 : c < 0 ∨ (len : Int) ≤ c := by have := mt Tm.inn_iff.2 (by rw [t2]; simp); omega
          have hkk : Tm.kok ⟨op, v, n, ((i0 : Nat) : Int), ((i1 : Nat) : Int), c⟩ len = false := by simp [Tm.kok, hk, t0, t1, t2]
          exact (rr32 op v n c g o len cap w hk o1 o2 hm hg i0 _ (by omega) q0 i1 _ (by omega) q1 e2).mono fun e w' ⟨he, hb⟩ => ⟨he.trans (ret_int (Tm.flt_kid ho hkk).symm), hb⟩
      · have t1 : Tm.inn b len = false := by simpa using t1
        have e1 : b < 0 ∨ (len : Int) ≤ b := by have := mt Tm.inn_iff.2 (by rw [t1]; simp); omega
        have hkk : Tm.kok ⟨op, v, n, ((i0 : Nat) : Int), b, c⟩ len = false := by simp [Tm.kok, hk, t0, t1]
        exact (rr31 op v n b c g o len cap w hk o1 o2 hm hg i0 _ (by omega) q0 e1).mono fun e w' ⟨he, hb⟩ => ⟨he.trans (ret_int (Tm.flt_kid ho hkk).symm), hb⟩
    · have t0 : Tm.inn a len = false := by simpa using t0
      have e0 : a < 0 ∨ (len : Int) ≤ a := by have := mt Tm.inn_iff.2 (by rw [t0]; simp); omega
      have hkk : Tm.kok ⟨op, v, n, a, b, c⟩ len = false := by simp [Tm.kok, hk, t0]
      exact (rr30 op v n a b c A len cap w hk o1 o2 hm e0).mono fun e w' ⟨he, hb⟩ => ⟨he.trans (ret_int (Tm.flt_kid ho hkk).symm), hb⟩
end Go.Proofs.Ytdbcpnpcnkccaaa
