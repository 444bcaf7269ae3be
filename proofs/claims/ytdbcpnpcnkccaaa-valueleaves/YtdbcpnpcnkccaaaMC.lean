/-
  Contract of the reference's Right.
  The reference's Right, of operations with 0 kids.
  The reference's Right, of operations with 1 kids.
-/
import Derived.Test.YtdbcpnpcnkccaaaMB
import Derived.Deep.RegionHeld3
set_option linter.unusedSimpArgs false
set_option linter.unusedVariables false
namespace Go.Proofs.Ytdbcpnpcnkccaaa
open Go.RowKit

def Tm.rres (op v n x y u : Int) : Int := if Tm.rwid op v x y u ≠ v ∨ v < 0 then 8 else if Tm.mst op v < n then 3 else 0

/-- Nine cells: a node's, and an array's behind it. -/
theorem nine_keep {W v : World} {h : Nat} {c0 c1 c2 c3 c4 c5 d0 d1 d2 : Value} (hb : Below W.heap.size W v) (hz : h + 1 < W.heap.size)
    (k : W.cell? ⟨h, 0, none⟩ = some c0 ∧ W.cell? ⟨h, 1, none⟩ = some c1 ∧ W.cell? ⟨h, 2, none⟩ = some c2 ∧ W.cell? ⟨h, 3, none⟩ = some c3 ∧ W.cell? ⟨h, 4, none⟩ = some c4 ∧ W.cell? ⟨h, 5, none⟩ = some c5 ∧ W.cell? ⟨h + 1, 0, none⟩ = some d0 ∧ W.cell? ⟨h + 1, 1, none⟩ = some d1 ∧ W.cell? ⟨h + 1, 2, none⟩ = some d2) :
    v.cell? ⟨h, 0, none⟩ = some c0 ∧ v.cell? ⟨h, 1, none⟩ = some c1 ∧ v.cell? ⟨h, 2, none⟩ = some c2 ∧ v.cell? ⟨h, 3, none⟩ = some c3 ∧ v.cell? ⟨h, 4, none⟩ = some c4 ∧ v.cell? ⟨h, 5, none⟩ = some c5 ∧ v.cell? ⟨h + 1, 0, none⟩ = some d0 ∧ v.cell? ⟨h + 1, 1, none⟩ = some d1 ∧ v.cell? ⟨h + 1, 2, none⟩ = some d2 :=
  ⟨cells_below hb k.1 (by omega), cells_below hb k.2.1 (by omega), cells_below hb k.2.2.1 (by omega), cells_below hb k.2.2.2.1 (by omega), cells_below hb k.2.2.2.2.1 (by omega), cells_below hb k.2.2.2.2.2.1 (by omega), cells_below hb k.2.2.2.2.2.2.1 hz, cells_below hb k.2.2.2.2.2.2.2.1 hz, cells_below hb k.2.2.2.2.2.2.2.2 hz⟩

end Go.Proofs.Ytdbcpnpcnkccaaa
namespace Go.Proofs.Ytdbcpnpcnkccaaa
open Go.RowKit

set_option maxRecDepth 20000 in
set_option maxHeartbeats 2000000 in
theorem rr00 (op v n a b c : Int) (A : Option Addr) (len cap : Nat) (w : World) (hk : Tm.kidn op = 0) (o1 : ¬ op < 0) (o2 : ¬ 24 < op) (hm : len ≤ maxLen) (e0 : (a != 0) = true) :
    Calls Try.prog 44 #[.agg #[.int .i64 op, .int .i64 v, .int .u64 n, .int .i64 a, .int .i64 b, .int .i64 c], .slice A len cap] w fun e w' => e = .returned (.int .i64 9) ∧ Below w.heap.size w w' := by
  unfold maxLen at hm
  have HK := Lib.hid hk
  clear hk
  go_enter Try.func44, Try.ntmps44
  go_wp2_with (go_at_call 20; refine (rkids_any _ _).mono ?_; rintro e w' ⟨rfl, rfl⟩; rw [HK.out])
  refine wp_loop_rounds 4 ?_
  rw [rounds_succ]; go_wp2_with (go_at_call 20; refine (rkids_any _ _).mono ?_; rintro e w' ⟨rfl, rfl⟩; rw [HK.out])
  go_ret
  exact ⟨rfl, ((Below.refl _ _).alloc (Nat.le_refl _) _).alloc (by simp) _⟩

set_option maxRecDepth 20000 in
set_option maxHeartbeats 2000000 in
theorem rr01 (op v n a b c : Int) (A : Option Addr) (len cap : Nat) (w : World) (hk : Tm.kidn op = 0) (o1 : ¬ op < 0) (o2 : ¬ 24 < op) (hm : len ≤ maxLen) (e0 : (a != 0) = false) (e1 : (b != 0) = true) :
    Calls Try.prog 44 #[.agg #[.int .i64 op, .int .i64 v, .int .u64 n, .int .i64 a, .int .i64 b, .int .i64 c], .slice A len cap] w fun e w' => e = .returned (.int .i64 9) ∧ Below w.heap.size w w' := by
  unfold maxLen at hm
  have HK := Lib.hid hk
  clear hk
  go_enter Try.func44, Try.ntmps44
  go_wp2_with (go_at_call 20; refine (rkids_any _ _).mono ?_; rintro e w' ⟨rfl, rfl⟩; rw [HK.out])
  refine wp_loop_rounds 4 ?_
  rw [rounds_succ]; go_wp2_with (go_at_call 20; refine (rkids_any _ _).mono ?_; rintro e w' ⟨rfl, rfl⟩; rw [HK.out])
  rw [rounds_succ]; go_wp2_with (go_at_call 20; refine (rkids_any _ _).mono ?_; rintro e w' ⟨rfl, rfl⟩; rw [HK.out])
  go_ret
  exact ⟨rfl, ((Below.refl _ _).alloc (Nat.le_refl _) _).alloc (by simp) _⟩

set_option maxRecDepth 20000 in
set_option maxHeartbeats 2000000 in
theorem rr02 (op v n a b c : Int) (A : Option Addr) (len cap : Nat) (w : World) (hk : Tm.kidn op = 0) (o1 : ¬ op < 0) (o2 : ¬ 24 < op) (hm : len ≤ maxLen) (e0 : (a != 0) = false) (e1 : (b != 0) = false) (e2 : (c != 0) = true) :
    Calls Try.prog 44 #[.agg #[.int .i64 op, .int .i64 v, .int .u64 n, .int .i64 a, .int .i64 b, .int .i64 c], .slice A len cap] w fun e w' => e = .returned (.int .i64 9) ∧ Below w.heap.size w w' := by
  unfold maxLen at hm
  have HK := Lib.hid hk
  clear hk
  go_enter Try.func44, Try.ntmps44
  go_wp2_with (go_at_call 20; refine (rkids_any _ _).mono ?_; rintro e w' ⟨rfl, rfl⟩; rw [HK.out])
  refine wp_loop_rounds 4 ?_
  rw [rounds_succ]; go_wp2_with (go_at_call 20; refine (rkids_any _ _).mono ?_; rintro e w' ⟨rfl, rfl⟩; rw [HK.out])
  rw [rounds_succ]; go_wp2_with (go_at_call 20; refine (rkids_any _ _).mono ?_; rintro e w' ⟨rfl, rfl⟩; rw [HK.out])
  rw [rounds_succ]; go_wp2_with (go_at_call 20; refine (rkids_any _ _).mono ?_; rintro e w' ⟨rfl, rfl⟩; rw [HK.out])
  go_ret
  exact ⟨rfl, ((Below.refl _ _).alloc (Nat.le_refl _) _).alloc (by simp) _⟩

set_option maxRecDepth 20000 in
set_option maxHeartbeats 2000000 in
theorem rr03 (op v n a b c : Int) (A : Option Addr) (len cap : Nat) (w : World) (hk : Tm.kidn op = 0) (o1 : ¬ op < 0) (o2 : ¬ 24 < op) (hm : len ≤ maxLen) (e0 : (a != 0) = false) (e1 : (b != 0) = false) (e2 : (c != 0) = false) :
    Calls Try.prog 44 #[.agg #[.int .i64 op, .int .i64 v, .int .u64 n, .int .i64 a, .int .i64 b, .int .i64 c], .slice A len cap] w fun e w' => e = .returned (.int .i64 (Tm.rres op v n 0 0 0)) ∧ Below w.heap.size w w' := by
  unfold maxLen at hm
  have HK := Lib.hid hk
  clear hk
  go_enter Try.func44, Try.ntmps44
  go_wp2_with (go_at_call 20; refine (rkids_any _ _).mono ?_; rintro e w' ⟨rfl, rfl⟩; rw [HK.out])
  refine wp_loop_rounds 4 ?_
  rw [rounds_succ]; go_wp2_with (go_at_call 20; refine (rkids_any _ _).mono ?_; rintro e w' ⟨rfl, rfl⟩; rw [HK.out])
  rw [rounds_succ]; go_wp2_with (go_at_call 20; refine (rkids_any _ _).mono ?_; rintro e w' ⟨rfl, rfl⟩; rw [HK.out])
  rw [rounds_succ]; go_wp2_with (go_at_call 20; refine (rkids_any _ _).mono ?_; rintro e w' ⟨rfl, rfl⟩; rw [HK.out])
  rw [rounds_succ]; go_wp2_with (go_at_call 20; refine (rkids_any _ _).mono ?_; rintro e w' ⟨rfl, rfl⟩; rw [HK.out])
  have hS : (fun W => W.cell? ⟨w.heap.size, 0, none⟩ = some (.int .i64 op) ∧ W.cell? ⟨w.heap.size, 1, none⟩ = some (.int .i64 v) ∧ W.cell? ⟨w.heap.size, 2, none⟩ = some (.int .u64 n) ∧ W.cell? ⟨w.heap.size, 3, none⟩ = some (.int .i64 a) ∧ W.cell? ⟨w.heap.size, 4, none⟩ = some (.int .i64 b) ∧ W.cell? ⟨w.heap.size, 5, none⟩ = some (.int .i64 c) ∧ W.cell? ⟨w.heap.size + 1, 0, none⟩ = some (.int .i64 0) ∧ W.cell? ⟨w.heap.size + 1, 1, none⟩ = some (.int .i64 0) ∧ W.cell? ⟨w.heap.size + 1, 2, none⟩ = some (.int .i64 0)) ((w.alloc (.cells #[.int .i64 op, .int .i64 v, .int .u64 n, .int .i64 a, .int .i64 b, .int .i64 c] 36)).alloc (.cells #[.int .i64 0, .int .i64 0, .int .i64 0] 34)) := by simp [go_sem]
  have hB : Below w.heap.size w ((w.alloc (.cells #[.int .i64 op, .int .i64 v, .int .u64 n, .int .i64 a, .int .i64 b, .int .i64 c] 36)).alloc (.cells #[.int .i64 0, .int .i64 0, .int .i64 0] 34)) := ((Below.refl _ _).alloc (Nat.le_refl _) _).alloc (by simp) _
  have hZ : w.heap.size + 1 < ((w.alloc (.cells #[.int .i64 op, .int .i64 v, .int .u64 n, .int .i64 a, .int .i64 b, .int .i64 c] 36)).alloc (.cells #[.int .i64 0, .int .i64 0, .int .i64 0] 34)).heap.size := by simp
  revert hS hB hZ
  generalize ((w.alloc (.cells #[.int .i64 op, .int .i64 v, .int .u64 n, .int .i64 a, .int .i64 b, .int .i64 c] 36)).alloc (.cells #[.int .i64 0, .int .i64 0, .int .i64 0] 34)) = U
  intro hS hB hZ
  have HB := Lib.hid (show Below w.heap.size w U.drew from hB.drew)
  have hQ := hS
  obtain ⟨c0, c1, c2, c3, c4, c5, d0, d1, d2⟩ := hS
  have HS := Lib.hid (show (fun W => W.cell? ⟨w.heap.size, 0, none⟩ = some (.int .i64 op) ∧ W.cell? ⟨w.heap.size, 1, none⟩ = some (.int .i64 v) ∧ W.cell? ⟨w.heap.size, 2, none⟩ = some (.int .u64 n) ∧ W.cell? ⟨w.heap.size, 3, none⟩ = some (.int .i64 a) ∧ W.cell? ⟨w.heap.size, 4, none⟩ = some (.int .i64 b) ∧ W.cell? ⟨w.heap.size, 5, none⟩ = some (.int .i64 c) ∧ W.cell? ⟨w.heap.size + 1, 0, none⟩ = some (.int .i64 0) ∧ W.cell? ⟨w.heap.size + 1, 1, none⟩ = some (.int .i64 0) ∧ W.cell? ⟨w.heap.size + 1, 2, none⟩ = some (.int .i64 0)) U.drew from hQ)
  have HZ := Lib.hid (show w.heap.size + 1 < U.drew.heap.size from hZ)
  clear hB hQ hZ
  by_cases h1 : Tm.rwid op v 0 0 0 = v
  · have x1 : (Tm.rwid op v 0 0 0 != v) = false := by simpa using h1
    by_cases h2 : v < 0
    · have x2 : decide (v < 0) = true := decide_eq_true h2
      have HR := Lib.hid (show Tm.rres op v n 0 0 0 = 8 from if_pos (.inr h2))
      clear h1 h2
      go_region_held3 (fun W => W.cell? ⟨w.heap.size, 0, none⟩ = some (.int .i64 op) ∧ W.cell? ⟨w.heap.size, 1, none⟩ = some (.int .i64 v) ∧ W.cell? ⟨w.heap.size, 2, none⟩ = some (.int .u64 n) ∧ W.cell? ⟨w.heap.size, 3, none⟩ = some (.int .i64 a) ∧ W.cell? ⟨w.heap.size, 4, none⟩ = some (.int .i64 b) ∧ W.cell? ⟨w.heap.size, 5, none⟩ = some (.int .i64 c) ∧ W.cell? ⟨w.heap.size + 1, 0, none⟩ = some (.int .i64 0) ∧ W.cell? ⟨w.heap.size + 1, 1, none⟩ = some (.int .i64 0) ∧ W.cell? ⟨w.heap.size + 1, 2, none⟩ = some (.int .i64 0))
        (first | with_reducible exact HS.out | with_reducible exact nine_keep (by assumption) HZ.out HS.out)
        (first | (go_at_call 66; (with_reducible refine (rwidth_any _ _ _ _ _ _ _ _ _ _).mono ?_); rintro e v9 ⟨rfl, hb9⟩))
      go_wp2
      go_ret
      exact ⟨ret_int HR.out.symm, HB.out.trans (hb9.mono HB.out.size)⟩
    · have x2 : decide (v < 0) = false := decide_eq_false h2
      have HR := Lib.hid (show Tm.rres op v n 0 0 0 = (if Tm.mst op v < n then 3 else 0) from if_neg (by omega))
      clear h1 h2
      go_region_held3 (fun W => W.cell? ⟨w.heap.size, 0, none⟩ = some (.int .i64 op) ∧ W.cell? ⟨w.heap.size, 1, none⟩ = some (.int .i64 v) ∧ W.cell? ⟨w.heap.size, 2, none⟩ = some (.int .u64 n) ∧ W.cell? ⟨w.heap.size, 3, none⟩ = some (.int .i64 a) ∧ W.cell? ⟨w.heap.size, 4, none⟩ = some (.int .i64 b) ∧ W.cell? ⟨w.heap.size, 5, none⟩ = some (.int .i64 c) ∧ W.cell? ⟨w.heap.size + 1, 0, none⟩ = some (.int .i64 0) ∧ W.cell? ⟨w.heap.size + 1, 1, none⟩ = some (.int .i64 0) ∧ W.cell? ⟨w.heap.size + 1, 2, none⟩ = some (.int .i64 0))
        (first | with_reducible exact HS.out | with_reducible exact nine_keep (by assumption) HZ.out HS.out)
        (first | (go_at_call 66; (with_reducible refine (rwidth_any _ _ _ _ _ _ _ _ _ _).mono ?_); rintro e v9 ⟨rfl, hb9⟩))
      have HS9 := Lib.hid (show (fun W => W.cell? ⟨w.heap.size, 0, none⟩ = some (.int .i64 op) ∧ W.cell? ⟨w.heap.size, 1, none⟩ = some (.int .i64 v) ∧ W.cell? ⟨w.heap.size, 2, none⟩ = some (.int .u64 n) ∧ W.cell? ⟨w.heap.size, 3, none⟩ = some (.int .i64 a) ∧ W.cell? ⟨w.heap.size, 4, none⟩ = some (.int .i64 b) ∧ W.cell? ⟨w.heap.size, 5, none⟩ = some (.int .i64 c) ∧ W.cell? ⟨w.heap.size + 1, 0, none⟩ = some (.int .i64 0) ∧ W.cell? ⟨w.heap.size + 1, 1, none⟩ = some (.int .i64 0) ∧ W.cell? ⟨w.heap.size + 1, 2, none⟩ = some (.int .i64 0)) v9.drew from (show (fun W => W.cell? ⟨w.heap.size, 0, none⟩ = some (.int .i64 op) ∧ W.cell? ⟨w.heap.size, 1, none⟩ = some (.int .i64 v) ∧ W.cell? ⟨w.heap.size, 2, none⟩ = some (.int .u64 n) ∧ W.cell? ⟨w.heap.size, 3, none⟩ = some (.int .i64 a) ∧ W.cell? ⟨w.heap.size, 4, none⟩ = some (.int .i64 b) ∧ W.cell? ⟨w.heap.size, 5, none⟩ = some (.int .i64 c) ∧ W.cell? ⟨w.heap.size + 1, 0, none⟩ = some (.int .i64 0) ∧ W.cell? ⟨w.heap.size + 1, 1, none⟩ = some (.int .i64 0) ∧ W.cell? ⟨w.heap.size + 1, 2, none⟩ = some (.int .i64 0)) v9 from nine_keep hb9 HZ.out HS.out))
      have HB9 := Lib.hid (show Below w.heap.size w v9.drew from (HB.out.trans (hb9.mono HB.out.size)).drew)
      have HZ9 := Lib.hid (show w.heap.size + 1 < v9.drew.heap.size from Nat.lt_of_lt_of_le HZ.out hb9.size)
      clear hb9 c0 c1 c2 c3 c4 c5 d0 d1 d2 HS HB HZ
      obtain ⟨c0, c1, c2, c3, c4, c5, d0, d1, d2⟩ := (show (fun W => W.cell? ⟨w.heap.size, 0, none⟩ = some (.int .i64 op) ∧ W.cell? ⟨w.heap.size, 1, none⟩ = some (.int .i64 v) ∧ W.cell? ⟨w.heap.size, 2, none⟩ = some (.int .u64 n) ∧ W.cell? ⟨w.heap.size, 3, none⟩ = some (.int .i64 a) ∧ W.cell? ⟨w.heap.size, 4, none⟩ = some (.int .i64 b) ∧ W.cell? ⟨w.heap.size, 5, none⟩ = some (.int .i64 c) ∧ W.cell? ⟨w.heap.size + 1, 0, none⟩ = some (.int .i64 0) ∧ W.cell? ⟨w.heap.size + 1, 1, none⟩ = some (.int .i64 0) ∧ W.cell? ⟨w.heap.size + 1, 2, none⟩ = some (.int .i64 0)) v9 from HS9.out)
      by_cases h3 : Tm.mst op v < n
      · have x3 : decide (Tm.mst op v < n) = true := decide_eq_true h3
        have HR3 := Lib.hid (HR.out.trans (if_pos h3))
        clear h3
        go_wp2_with fail
        go_region_held3 (fun W => W.cell? ⟨w.heap.size, 0, none⟩ = some (.int .i64 op) ∧ W.cell? ⟨w.heap.size, 1, none⟩ = some (.int .i64 v) ∧ W.cell? ⟨w.heap.size, 2, none⟩ = some (.int .u64 n) ∧ W.cell? ⟨w.heap.size, 3, none⟩ = some (.int .i64 a) ∧ W.cell? ⟨w.heap.size, 4, none⟩ = some (.int .i64 b) ∧ W.cell? ⟨w.heap.size, 5, none⟩ = some (.int .i64 c) ∧ W.cell? ⟨w.heap.size + 1, 0, none⟩ = some (.int .i64 0) ∧ W.cell? ⟨w.heap.size + 1, 1, none⟩ = some (.int .i64 0) ∧ W.cell? ⟨w.heap.size + 1, 2, none⟩ = some (.int .i64 0))
          (first | with_reducible exact HS9.out | with_reducible exact nine_keep (by assumption) HZ9.out HS9.out)
          (first | (go_at_call 67; (with_reducible refine (most_any _ _ _ _ _ _ _).mono ?_); rintro e v8 ⟨rfl, hb8⟩))
        go_wp2
        go_ret
        exact ⟨ret_int HR3.out.symm, HB9.out.trans (hb8.mono HB9.out.size)⟩
      · have x3 : decide (Tm.mst op v < n) = false := decide_eq_false h3
        have HR3 := Lib.hid (HR.out.trans (if_neg h3))
        clear h3
        go_wp2_with fail
        go_region_held3 (fun W => W.cell? ⟨w.heap.size, 0, none⟩ = some (.int .i64 op) ∧ W.cell? ⟨w.heap.size, 1, none⟩ = some (.int .i64 v) ∧ W.cell? ⟨w.heap.size, 2, none⟩ = some (.int .u64 n) ∧ W.cell? ⟨w.heap.size, 3, none⟩ = some (.int .i64 a) ∧ W.cell? ⟨w.heap.size, 4, none⟩ = some (.int .i64 b) ∧ W.cell? ⟨w.heap.size, 5, none⟩ = some (.int .i64 c) ∧ W.cell? ⟨w.heap.size + 1, 0, none⟩ = some (.int .i64 0) ∧ W.cell? ⟨w.heap.size + 1, 1, none⟩ = some (.int .i64 0) ∧ W.cell? ⟨w.heap.size + 1, 2, none⟩ = some (.int .i64 0))
          (first | with_reducible exact HS9.out | with_reducible exact nine_keep (by assumption) HZ9.out HS9.out)
          (first | (go_at_call 67; (with_reducible refine (most_any _ _ _ _ _ _ _).mono ?_); rintro e v8 ⟨rfl, hb8⟩))
        go_wp2
        go_ret
        exact ⟨ret_int HR3.out.symm, HB9.out.trans (hb8.mono HB9.out.size)⟩
  · have x1 : (Tm.rwid op v 0 0 0 != v) = true := by simpa using h1
    have HR := Lib.hid (show Tm.rres op v n 0 0 0 = 8 from if_pos (.inl h1))
    have x3 : (Tm.rwid op v 0 0 0 == v) = false := by simpa using h1
    clear h1
    refine wp_region_held_drew (S := fun W => W.cell? ⟨w.heap.size, 0, none⟩ = some (.int .i64 op) ∧ W.cell? ⟨w.heap.size, 1, none⟩ = some (.int .i64 v) ∧ W.cell? ⟨w.heap.size, 2, none⟩ = some (.int .u64 n) ∧ W.cell? ⟨w.heap.size, 3, none⟩ = some (.int .i64 a) ∧ W.cell? ⟨w.heap.size, 4, none⟩ = some (.int .i64 b) ∧ W.cell? ⟨w.heap.size, 5, none⟩ = some (.int .i64 c) ∧ W.cell? ⟨w.heap.size + 1, 0, none⟩ = some (.int .i64 0) ∧ W.cell? ⟨w.heap.size + 1, 1, none⟩ = some (.int .i64 0) ∧ W.cell? ⟨w.heap.size + 1, 2, none⟩ = some (.int .i64 0)) (by kernel_rfl) HS.out (fun hHeld => ?_)
    refine wpAnyH_take (i := 0) (v := .agg #[.int .i64 op, .int .i64 v, .int .u64 n, .int .i64 a, .int .i64 b, .int .i64 c]) rfl (by kernel_rfl) (by kernel_rfl) (by kernel_rfl) (fun _ _ _ h => h) (Or.inl ⟨by rfl, fun w9 hSw => ?_⟩) hHeld ?_
    · (try dsimp only at hSw); go_simp
    try simp only [Act.put, List.setIfInBounds_toArray, List.set_cons_zero, List.set_cons_succ]
    refine wpAnyH_take (i := 1) (v := .pointer (some ⟨w.heap.size + 1, 0, none⟩)) rfl (by kernel_rfl) (by kernel_rfl) (by kernel_rfl) (fun _ _ _ h => h) (Or.inl ⟨by rfl, fun w9 hSw => ?_⟩) hHeld ?_
    · (try dsimp only at hSw); go_simp
    try simp only [Act.put, List.setIfInBounds_toArray, List.set_cons_zero, List.set_cons_succ]
    refine wpAnyH_take (i := 2) (v := .int .i64 0) rfl (by kernel_rfl) (by kernel_rfl) (by kernel_rfl) (fun _ _ _ h => h) (Or.inl ⟨by rfl, fun w9 hSw => ?_⟩) hHeld ?_
    · (try dsimp only at hSw); go_simp
    try simp only [Act.put, List.setIfInBounds_toArray, List.set_cons_zero, List.set_cons_succ]
    refine wpAnyH_take (i := 3) (v := .pointer (some ⟨w.heap.size + 1, 1, none⟩)) rfl (by kernel_rfl) (by kernel_rfl) (by kernel_rfl) (fun _ _ _ h => h) (Or.inl ⟨by rfl, fun w9 hSw => ?_⟩) hHeld ?_
    · (try dsimp only at hSw); go_simp
    try simp only [Act.put, List.setIfInBounds_toArray, List.set_cons_zero, List.set_cons_succ]
    refine wpAnyH_take (i := 4) (v := .int .i64 0) rfl (by kernel_rfl) (by kernel_rfl) (by kernel_rfl) (fun _ _ _ h => h) (Or.inl ⟨by rfl, fun w9 hSw => ?_⟩) hHeld ?_
    · (try dsimp only at hSw); go_simp
    try simp only [Act.put, List.setIfInBounds_toArray, List.set_cons_zero, List.set_cons_succ]
    refine wpAnyH_take (i := 5) (v := .pointer (some ⟨w.heap.size + 1, 2, none⟩)) rfl (by kernel_rfl) (by kernel_rfl) (by kernel_rfl) (fun _ _ _ h => h) (Or.inl ⟨by rfl, fun w9 hSw => ?_⟩) hHeld ?_
    · (try dsimp only at hSw); go_simp
    try simp only [Act.put, List.setIfInBounds_toArray, List.set_cons_zero, List.set_cons_succ]
    refine wpAnyH_take (i := 6) (v := .int .i64 0) rfl (by kernel_rfl) (by kernel_rfl) (by kernel_rfl) (fun _ _ _ h => h) (Or.inl ⟨by rfl, fun w9 hSw => ?_⟩) hHeld ?_
    · (try dsimp only at hSw); go_simp
    try simp only [Act.put, List.setIfInBounds_toArray, List.set_cons_zero, List.set_cons_succ]
    refine wpAnyH_take (i := 8) (v := .pointer (some ⟨w.heap.size, 1, none⟩)) rfl (by kernel_rfl) (by kernel_rfl) (by kernel_rfl) (fun _ _ _ h => h) (Or.inl ⟨by rfl, fun w9 hSw => ?_⟩) hHeld ?_
    · (try dsimp only at hSw); go_simp
    try simp only [Act.put, List.setIfInBounds_toArray, List.set_cons_zero, List.set_cons_succ]
    refine wpAnyH_take (i := 9) (v := .int .i64 v) rfl (by kernel_rfl) (by kernel_rfl) (by kernel_rfl) (fun _ _ _ h => h) (Or.inl ⟨by rfl, fun w9 hSw => ?_⟩) hHeld ?_
    · (try dsimp only at hSw); go_simp
    try simp only [Act.put, List.setIfInBounds_toArray, List.set_cons_zero, List.set_cons_succ]
    refine wpAnyH_ready (rs := [7]) (by kernel_rfl) (by simp) ?_
    refine AllReadyH.cons rfl (fun K hK => ?_) AllReadyH.nil
    go_simp
    go_at_call 66
    (with_reducible refine (rwidth_any _ _ _ _ _ _ _ _ _ _).mono ?_)
    rintro e v9 ⟨rfl, hb9⟩
    go_wp2_with fail
    refine hK.out _ _ (nine_keep hb9 HZ.out HS.out) (fun hHeld => ?_)
    clear hK K
    try simp only [Act.put, List.setIfInBounds_toArray, List.set_cons_zero, List.set_cons_succ]
    refine wpAnyH_take (i := 10) (v := .bool true) rfl (by kernel_rfl) (by kernel_rfl) (by kernel_rfl) (fun _ _ _ h => h) (Or.inl ⟨by rfl, fun w9 hSw => ?_⟩) hHeld ?_
    · (try dsimp only at hSw); go_simp
    try simp only [Act.put, List.setIfInBounds_toArray, List.set_cons_zero, List.set_cons_succ]
    refine wpAnyH_take (i := 11) (v := .bool true) rfl (by kernel_rfl) (by kernel_rfl) (by kernel_rfl) (fun _ _ _ h => h) (Or.inl ⟨by rfl, fun w9 hSw => ?_⟩) hHeld ?_
    · (try dsimp only at hSw); go_simp
    try simp only [Act.put, List.setIfInBounds_toArray, List.set_cons_zero, List.set_cons_succ]
    refine wpAnyH_take (i := 12) (v := undef) rfl (by kernel_rfl) (by kernel_rfl) (by kernel_rfl) (fun _ _ _ h => h) (Or.inr ⟨by rfl, rfl⟩) hHeld ?_
    try simp only [Act.put, List.setIfInBounds_toArray, List.set_cons_zero, List.set_cons_succ]
    refine wpAnyH_take (i := 13) (v := undef) rfl (by kernel_rfl) (by kernel_rfl) (by kernel_rfl) (fun _ _ _ h => h) (Or.inr ⟨by rfl, rfl⟩) hHeld ?_
    try simp only [Act.put, List.setIfInBounds_toArray, List.set_cons_zero, List.set_cons_succ]
    refine wpAnyH_take (i := 14) (v := undef) rfl (by kernel_rfl) (by kernel_rfl) (by kernel_rfl) (fun _ _ _ h => h) (Or.inr ⟨by rfl, rfl⟩) hHeld ?_
    try simp only [Act.put, List.setIfInBounds_toArray, List.set_cons_zero, List.set_cons_succ]
    refine wpAnyH_take (i := 15) (v := .bool true) rfl (by kernel_rfl) (by kernel_rfl) (by kernel_rfl) (fun _ _ _ h => h) (Or.inl ⟨by rfl, fun w9 hSw => ?_⟩) hHeld ?_
    · (try dsimp only at hSw); go_simp
    try simp only [Act.put, List.setIfInBounds_toArray, List.set_cons_zero, List.set_cons_succ]
    refine wpAnyH_done (by kernel_rfl) ?_ _
    go_wp2
    go_ret
    exact ⟨ret_int HR.out.symm, HB.out.trans (hb9.mono HB.out.size)⟩

end Go.Proofs.Ytdbcpnpcnkccaaa
namespace Go.Proofs.Ytdbcpnpcnkccaaa
open Go.RowKit

set_option maxRecDepth 20000 in
set_option maxHeartbeats 2000000 in
theorem rr10 (op v n a b c : Int) (A : Option Addr) (len cap : Nat) (w : World) (hk : Tm.kidn op = 1) (o1 : ¬ op < 0) (o2 : ¬ 24 < op) (hm : len ≤ maxLen) (e0 : a < 0 ∨ (len : Int) ≤ a) :
    Calls Try.prog 44 #[.agg #[.int .i64 op, .int .i64 v, .int .u64 n, .int .i64 a, .int .i64 b, .int .i64 c], .slice A len cap] w fun e w' => e = .returned (.int .i64 9) ∧ Below w.heap.size w w' := by
  unfold maxLen at hm
  have HK := Lib.hid hk
  clear hk
  rcases e0 with e0 | e0
  all_goals
    go_enter Try.func44, Try.ntmps44
    go_wp2_with (go_at_call 20; refine (rkids_any _ _).mono ?_; rintro e w' ⟨rfl, rfl⟩; rw [HK.out])
    refine wp_loop_rounds 4 ?_
    rw [rounds_succ]; go_wp2_with (go_at_call 20; refine (rkids_any _ _).mono ?_; rintro e w' ⟨rfl, rfl⟩; rw [HK.out])
    go_ret
    exact ⟨rfl, ((Below.refl _ _).alloc (Nat.le_refl _) _).alloc (by simp) _⟩

set_option maxRecDepth 20000 in
set_option maxHeartbeats 2000000 in
theorem rr11 (op v n b c : Int) (g o : Nat) (len cap : Nat) (w : World) (hk : Tm.kidn op = 1) (o1 : ¬ op < 0) (o2 : ¬ 24 < op) (hm : len ≤ maxLen) (hg : g < w.heap.size) (i0 : Nat) (v0 : Int) (l0 : i0 < len) (q0 : w.cell? ⟨g, o + i0 * 6 + 1, none⟩ = some (.int .i64 v0)) (e1 : (b != 0) = true) :
    Calls Try.prog 44 #[.agg #[.int .i64 op, .int .i64 v, .int .u64 n, .int .i64 (i0 : Nat), .int .i64 b, .int .i64 c], .slice (some ⟨g, o, none⟩) len cap] w fun e w' => e = .returned (.int .i64 9) ∧ Below w.heap.size w w' := by
  unfold maxLen at hm
  have HK := Lib.hid hk
  clear hk
  have l0' : ¬ (len : Int) ≤ i0 := by omega
  have m1 : g < w.heap.size + 1 := by omega
  have m2 : g < w.heap.size + 1 + 1 := by omega
  go_enter Try.func44, Try.ntmps44
  go_wp2_with (go_at_call 20; refine (rkids_any _ _).mono ?_; rintro e w' ⟨rfl, rfl⟩; rw [HK.out])
  refine wp_loop_rounds 4 ?_
  rw [rounds_succ]; go_wp2_with (go_at_call 20; refine (rkids_any _ _).mono ?_; rintro e w' ⟨rfl, rfl⟩; rw [HK.out])
  rw [rounds_succ]; go_wp2_with (go_at_call 20; refine (rkids_any _ _).mono ?_; rintro e w' ⟨rfl, rfl⟩; rw [HK.out])
  go_ret
  exact ⟨rfl, ((Below.refl _ _).alloc (Nat.le_refl _) _).alloc (by simp) _⟩

set_option maxRecDepth 20000 in
set_option maxHeartbeats 2000000 in
theorem rr12 (op v n b c : Int) (g o : Nat) (len cap : Nat) (w : World) (hk : Tm.kidn op = 1) (o1 : ¬ op < 0) (o2 : ¬ 24 < op) (hm : len ≤ maxLen) (hg : g < w.heap.size) (i0 : Nat) (v0 : Int) (l0 : i0 < len) (q0 : w.cell? ⟨g, o + i0 * 6 + 1, none⟩ = some (.int .i64 v0)) (e1 : (b != 0) = false) (e2 : (c != 0) = true) :
    Calls Try.prog 44 #[.agg #[.int .i64 op, .int .i64 v, .int .u64 n, .int .i64 (i0 : Nat), .int .i64 b, .int .i64 c], .slice (some ⟨g, o, none⟩) len cap] w fun e w' => e = .returned (.int .i64 9) ∧ Below w.heap.size w w' := by
  unfold maxLen at hm
  have HK := Lib.hid hk
  clear hk
  have l0' : ¬ (len : Int) ≤ i0 := by omega
  have m1 : g < w.heap.size + 1 := by omega
  have m2 : g < w.heap.size + 1 + 1 := by omega
  go_enter Try.func44, Try.ntmps44
  go_wp2_with (go_at_call 20; refine (rkids_any _ _).mono ?_; rintro e w' ⟨rfl, rfl⟩; rw [HK.out])
  refine wp_loop_rounds 4 ?_
  rw [rounds_succ]; go_wp2_with (go_at_call 20; refine (rkids_any _ _).mono ?_; rintro e w' ⟨rfl, rfl⟩; rw [HK.out])
  rw [rounds_succ]; go_wp2_with (go_at_call 20; refine (rkids_any _ _).mono ?_; rintro e w' ⟨rfl, rfl⟩; rw [HK.out])
  rw [rounds_succ]; go_wp2_with (go_at_call 20; refine (rkids_any _ _).mono ?_; rintro e w' ⟨rfl, rfl⟩; rw [HK.out])
  go_ret
  exact ⟨rfl, ((Below.refl _ _).alloc (Nat.le_refl _) _).alloc (by simp) _⟩

set_option maxRecDepth 20000 in
set_option maxHeartbeats 2000000 in
theorem rr13 (op v n b c : Int) (g o : Nat) (len cap : Nat) (w : World) (hk : Tm.kidn op = 1) (o1 : ¬ op < 0) (o2 : ¬ 24 < op) (hm : len ≤ maxLen) (hg : g < w.heap.size) (i0 : Nat) (v0 : Int) (l0 : i0 < len) (q0 : w.cell? ⟨g, o + i0 * 6 + 1, none⟩ = some (.int .i64 v0)) (e1 : (b != 0) = false) (e2 : (c != 0) = false) :
    Calls Try.prog 44 #[.agg #[.int .i64 op, .int .i64 v, .int .u64 n, .int .i64 (i0 : Nat), .int .i64 b, .int .i64 c], .slice (some ⟨g, o, none⟩) len cap] w fun e w' => e = .returned (.int .i64 (Tm.rres op v n v0 0 0)) ∧ Below w.heap.size w w' := by
  unfold maxLen at hm
  have HK := Lib.hid hk
  clear hk
  have l0' : ¬ (len : Int) ≤ i0 := by omega
  have m1 : g < w.heap.size + 1 := by omega
  have m2 : g < w.heap.size + 1 + 1 := by omega
  go_enter Try.func44, Try.ntmps44
  go_wp2_with (go_at_call 20; refine (rkids_any _ _).mono ?_; rintro e w' ⟨rfl, rfl⟩; rw [HK.out])
  refine wp_loop_rounds 4 ?_
  rw [rounds_succ]; go_wp2_with (go_at_call 20; refine (rkids_any _ _).mono ?_; rintro e w' ⟨rfl, rfl⟩; rw [HK.out])
  rw [rounds_succ]; go_wp2_with (go_at_call 20; refine (rkids_any _ _).mono ?_; rintro e w' ⟨rfl, rfl⟩; rw [HK.out])
  rw [rounds_succ]; go_wp2_with (go_at_call 20; refine (rkids_any _ _).mono ?_; rintro e w' ⟨rfl, rfl⟩; rw [HK.out])
  rw [rounds_succ]; go_wp2_with (go_at_call 20; refine (rkids_any _ _).mono ?_; rintro e w' ⟨rfl, rfl⟩; rw [HK.out])
  have hS : (fun W => W.cell? ⟨w.heap.size, 0, none⟩ = some (.int .i64 op) ∧ W.cell? ⟨w.heap.size, 1, none⟩ = some (.int .i64 v) ∧ W.cell? ⟨w.heap.size, 2, none⟩ = some (.int .u64 n) ∧ W.cell? ⟨w.heap.size, 3, none⟩ = some (.int .i64 (i0 : Nat)) ∧ W.cell? ⟨w.heap.size, 4, none⟩ = some (.int .i64 b) ∧ W.cell? ⟨w.heap.size, 5, none⟩ = some (.int .i64 c) ∧ W.cell? ⟨w.heap.size + 1, 0, none⟩ = some (.int .i64 v0) ∧ W.cell? ⟨w.heap.size + 1, 1, none⟩ = some (.int .i64 0) ∧ W.cell? ⟨w.heap.size + 1, 2, none⟩ = some (.int .i64 0)) ((w.alloc (.cells #[.int .i64 op, .int .i64 v, .int .u64 n, .int .i64 (i0 : Nat), .int .i64 b, .int .i64 c] 36)).alloc (.cells #[.int .i64 v0, .int .i64 0, .int .i64 0] 34)) := by simp [go_sem]
  have hB : Below w.heap.size w ((w.alloc (.cells #[.int .i64 op, .int .i64 v, .int .u64 n, .int .i64 (i0 : Nat), .int .i64 b, .int .i64 c] 36)).alloc (.cells #[.int .i64 v0, .int .i64 0, .int .i64 0] 34)) := ((Below.refl _ _).alloc (Nat.le_refl _) _).alloc (by simp) _
  have hZ : w.heap.size + 1 < ((w.alloc (.cells #[.int .i64 op, .int .i64 v, .int .u64 n, .int .i64 (i0 : Nat), .int .i64 b, .int .i64 c] 36)).alloc (.cells #[.int .i64 v0, .int .i64 0, .int .i64 0] 34)).heap.size := by simp
  revert hS hB hZ
  generalize ((w.alloc (.cells #[.int .i64 op, .int .i64 v, .int .u64 n, .int .i64 (i0 : Nat), .int .i64 b, .int .i64 c] 36)).alloc (.cells #[.int .i64 v0, .int .i64 0, .int .i64 0] 34)) = U
  intro hS hB hZ
  have HB := Lib.hid (show Below w.heap.size w U.drew from hB.drew)
  have hQ := hS
  obtain ⟨c0, c1, c2, c3, c4, c5, d0, d1, d2⟩ := hS
  have HS := Lib.hid (show (fun W => W.cell? ⟨w.heap.size, 0, none⟩ = some (.int .i64 op) ∧ W.cell? ⟨w.heap.size, 1, none⟩ = some (.int .i64 v) ∧ W.cell? ⟨w.heap.size, 2, none⟩ = some (.int .u64 n) ∧ W.cell? ⟨w.heap.size, 3, none⟩ = some (.int .i64 (i0 : Nat)) ∧ W.cell? ⟨w.heap.size, 4, none⟩ = some (.int .i64 b) ∧ W.cell? ⟨w.heap.size, 5, none⟩ = some (.int .i64 c) ∧ W.cell? ⟨w.heap.size + 1, 0, none⟩ = some (.int .i64 v0) ∧ W.cell? ⟨w.heap.size + 1, 1, none⟩ = some (.int .i64 0) ∧ W.cell? ⟨w.heap.size + 1, 2, none⟩ = some (.int .i64 0)) U.drew from hQ)
  have HZ := Lib.hid (show w.heap.size + 1 < U.drew.heap.size from hZ)
  clear hB hQ hZ
  by_cases h1 : Tm.rwid op v v0 0 0 = v
  · have x1 : (Tm.rwid op v v0 0 0 != v) = false := by simpa using h1
    by_cases h2 : v < 0
    · have x2 : decide (v < 0) = true := decide_eq_true h2
      have HR := Lib.hid (show Tm.rres op v n v0 0 0 = 8 from if_pos (.inr h2))
      clear h1 h2
      go_region_held3 (fun W => W.cell? ⟨w.heap.size, 0, none⟩ = some (.int .i64 op) ∧ W.cell? ⟨w.heap.size, 1, none⟩ = some (.int .i64 v) ∧ W.cell? ⟨w.heap.size, 2, none⟩ = some (.int .u64 n) ∧ W.cell? ⟨w.heap.size, 3, none⟩ = some (.int .i64 (i0 : Nat)) ∧ W.cell? ⟨w.heap.size, 4, none⟩ = some (.int .i64 b) ∧ W.cell? ⟨w.heap.size, 5, none⟩ = some (.int .i64 c) ∧ W.cell? ⟨w.heap.size + 1, 0, none⟩ = some (.int .i64 v0) ∧ W.cell? ⟨w.heap.size + 1, 1, none⟩ = some (.int .i64 0) ∧ W.cell? ⟨w.heap.size + 1, 2, none⟩ = some (.int .i64 0))
        (first | with_reducible exact HS.out | with_reducible exact nine_keep (by assumption) HZ.out HS.out)
        (first | (go_at_call 66; (with_reducible refine (rwidth_any _ _ _ _ _ _ _ _ _ _).mono ?_); rintro e v9 ⟨rfl, hb9⟩))
      go_wp2
      go_ret
      exact ⟨ret_int HR.out.symm, HB.out.trans (hb9.mono HB.out.size)⟩
    · have x2 : decide (v < 0) = false := decide_eq_false h2
      have HR := Lib.hid (show Tm.rres op v n v0 0 0 = (if Tm.mst op v < n then 3 else 0) from if_neg (by omega))
      clear h1 h2
      go_region_held3 (fun W => W.cell? ⟨w.heap.size, 0, none⟩ = some (.int .i64 op) ∧ W.cell? ⟨w.heap.size, 1, none⟩ = some (.int .i64 v) ∧ W.cell? ⟨w.heap.size, 2, none⟩ = some (.int .u64 n) ∧ W.cell? ⟨w.heap.size, 3, none⟩ = some (.int .i64 (i0 : Nat)) ∧ W.cell? ⟨w.heap.size, 4, none⟩ = some (.int .i64 b) ∧ W.cell? ⟨w.heap.size, 5, none⟩ = some (.int .i64 c) ∧ W.cell? ⟨w.heap.size + 1, 0, none⟩ = some (.int .i64 v0) ∧ W.cell? ⟨w.heap.size + 1, 1, none⟩ = some (.int .i64 0) ∧ W.cell? ⟨w.heap.size + 1, 2, none⟩ = some (.int .i64 0))
        (first | with_reducible exact HS.out | with_reducible exact nine_keep (by assumption) HZ.out HS.out)
        (first | (go_at_call 66; (with_reducible refine (rwidth_any _ _ _ _ _ _ _ _ _ _).mono ?_); rintro e v9 ⟨rfl, hb9⟩))
      have HS9 := Lib.hid (show (fun W => W.cell? ⟨w.heap.size, 0, none⟩ = some (.int .i64 op) ∧ W.cell? ⟨w.heap.size, 1, none⟩ = some (.int .i64 v) ∧ W.cell? ⟨w.heap.size, 2, none⟩ = some (.int .u64 n) ∧ W.cell? ⟨w.heap.size, 3, none⟩ = some (.int .i64 (i0 : Nat)) ∧ W.cell? ⟨w.heap.size, 4, none⟩ = some (.int .i64 b) ∧ W.cell? ⟨w.heap.size, 5, none⟩ = some (.int .i64 c) ∧ W.cell? ⟨w.heap.size + 1, 0, none⟩ = some (.int .i64 v0) ∧ W.cell? ⟨w.heap.size + 1, 1, none⟩ = some (.int .i64 0) ∧ W.cell? ⟨w.heap.size + 1, 2, none⟩ = some (.int .i64 0)) v9.drew from (show (fun W => W.cell? ⟨w.heap.size, 0, none⟩ = some (.int .i64 op) ∧ W.cell? ⟨w.heap.size, 1, none⟩ = some (.int .i64 v) ∧ W.cell? ⟨w.heap.size, 2, none⟩ = some (.int .u64 n) ∧ W.cell? ⟨w.heap.size, 3, none⟩ = some (.int .i64 (i0 : Nat)) ∧ W.cell? ⟨w.heap.size, 4, none⟩ = some (.int .i64 b) ∧ W.cell? ⟨w.heap.size, 5, none⟩ = some (.int .i64 c) ∧ W.cell? ⟨w.heap.size + 1, 0, none⟩ = some (.int .i64 v0) ∧ W.cell? ⟨w.heap.size + 1, 1, none⟩ = some (.int .i64 0) ∧ W.cell? ⟨w.heap.size + 1, 2, none⟩ = some (.int .i64 0)) v9 from nine_keep hb9 HZ.out HS.out))
      have HB9 := Lib.hid (show Below w.heap.size w v9.drew from (HB.out.trans (hb9.mono HB.out.size)).drew)
      have HZ9 := Lib.hid (show w.heap.size + 1 < v9.drew.heap.size from Nat.lt_of_lt_of_le HZ.out hb9.size)
      clear hb9 c0 c1 c2 c3 c4 c5 d0 d1 d2 HS HB HZ
      obtain ⟨c0, c1, c2, c3, c4, c5, d0, d1, d2⟩ := (show (fun W => W.cell? ⟨w.heap.size, 0, none⟩ = some (.int .i64 op) ∧ W.cell? ⟨w.heap.size, 1, none⟩ = some (.int .i64 v) ∧ W.cell? ⟨w.heap.size, 2, none⟩ = some (.int .u64 n) ∧ W.cell? ⟨w.heap.size, 3, none⟩ = some (.int .i64 (i0 : Nat)) ∧ W.cell? ⟨w.heap.size, 4, none⟩ = some (.int .i64 b) ∧ W.cell? ⟨w.heap.size, 5, none⟩ = some (.int .i64 c) ∧ W.cell? ⟨w.heap.size + 1, 0, none⟩ = some (.int .i64 v0) ∧ W.cell? ⟨w.heap.size + 1, 1, none⟩ = some (.int .i64 0) ∧ W.cell? ⟨w.heap.size + 1, 2, none⟩ = some (.int .i64 0)) v9 from HS9.out)
      by_cases h3 : Tm.mst op v < n
      · have x3 : decide (Tm.mst op v < n) = true := decide_eq_true h3
        have HR3 := Lib.hid (HR.out.trans (if_pos h3))
        clear h3
        go_wp2_with fail
        go_region_held3 (fun W => W.cell? ⟨w.heap.size, 0, none⟩ = some (.int .i64 op) ∧ W.cell? ⟨w.heap.size, 1, none⟩ = some (.int .i64 v) ∧ W.cell? ⟨w.heap.size, 2, none⟩ = some (.int .u64 n) ∧ W.cell? ⟨w.heap.size, 3, none⟩ = some (.int .i64 (i0 : Nat)) ∧ W.cell? ⟨w.heap.size, 4, none⟩ = some (.int .i64 b) ∧ W.cell? ⟨w.heap.size, 5, none⟩ = some (.int .i64 c) ∧ W.cell? ⟨w.heap.size + 1, 0, none⟩ = some (.int .i64 v0) ∧ W.cell? ⟨w.heap.size + 1, 1, none⟩ = some (.int .i64 0) ∧ W.cell? ⟨w.heap.size + 1, 2, none⟩ = some (.int .i64 0))
          (first | with_reducible exact HS9.out | with_reducible exact nine_keep (by assumption) HZ9.out HS9.out)
          (first | (go_at_call 67; (with_reducible refine (most_any _ _ _ _ _ _ _).mono ?_); rintro e v8 ⟨rfl, hb8⟩))
        go_wp2
        go_ret
        exact ⟨ret_int HR3.out.symm, HB9.out.trans (hb8.mono HB9.out.size)⟩
      · have x3 : decide (Tm.mst op v < n) = false := decide_eq_false h3
        have HR3 := Lib.hid (HR.out.trans (if_neg h3))
        clear h3
        go_wp2_with fail
        go_region_held3 (fun W => W.cell? ⟨w.heap.size, 0, none⟩ = some (.int .i64 op) ∧ W.cell? ⟨w.heap.size, 1, none⟩ = some (.int .i64 v) ∧ W.cell? ⟨w.heap.size, 2, none⟩ = some (.int .u64 n) ∧ W.cell? ⟨w.heap.size, 3, none⟩ = some (.int .i64 (i0 : Nat)) ∧ W.cell? ⟨w.heap.size, 4, none⟩ = some (.int .i64 b) ∧ W.cell? ⟨w.heap.size, 5, none⟩ = some (.int .i64 c) ∧ W.cell? ⟨w.heap.size + 1, 0, none⟩ = some (.int .i64 v0) ∧ W.cell? ⟨w.heap.size + 1, 1, none⟩ = some (.int .i64 0) ∧ W.cell? ⟨w.heap.size + 1, 2, none⟩ = some (.int .i64 0))
          (first | with_reducible exact HS9.out | with_reducible exact nine_keep (by assumption) HZ9.out HS9.out)
          (first | (go_at_call 67; (with_reducible refine (most_any _ _ _ _ _ _ _).mono ?_); rintro e v8 ⟨rfl, hb8⟩))
        go_wp2
        go_ret
        exact ⟨ret_int HR3.out.symm, HB9.out.trans (hb8.mono HB9.out.size)⟩
  · have x1 : (Tm.rwid op v v0 0 0 != v) = true := by simpa using h1
    have HR := Lib.hid (show Tm.rres op v n v0 0 0 = 8 from if_pos (.inl h1))
    have x3 : (Tm.rwid op v v0 0 0 == v) = false := by simpa using h1
    clear h1
    refine wp_region_held_drew (S := fun W => W.cell? ⟨w.heap.size, 0, none⟩ = some (.int .i64 op) ∧ W.cell? ⟨w.heap.size, 1, none⟩ = some (.int .i64 v) ∧ W.cell? ⟨w.heap.size, 2, none⟩ = some (.int .u64 n) ∧ W.cell? ⟨w.heap.size, 3, none⟩ = some (.int .i64 (i0 : Nat)) ∧ W.cell? ⟨w.heap.size, 4, none⟩ = some (.int .i64 b) ∧ W.cell? ⟨w.heap.size, 5, none⟩ = some (.int .i64 c) ∧ W.cell? ⟨w.heap.size + 1, 0, none⟩ = some (.int .i64 v0) ∧ W.cell? ⟨w.heap.size + 1, 1, none⟩ = some (.int .i64 0) ∧ W.cell? ⟨w.heap.size + 1, 2, none⟩ = some (.int .i64 0)) (by kernel_rfl) HS.out (fun hHeld => ?_)
    refine wpAnyH_take (i := 0) (v := .agg #[.int .i64 op, .int .i64 v, .int .u64 n, .int .i64 (i0 : Nat), .int .i64 b, .int .i64 c]) rfl (by kernel_rfl) (by kernel_rfl) (by kernel_rfl) (fun _ _ _ h => h) (Or.inl ⟨by rfl, fun w9 hSw => ?_⟩) hHeld ?_
    · (try dsimp only at hSw); go_simp
    try simp only [Act.put, List.setIfInBounds_toArray, List.set_cons_zero, List.set_cons_succ]
    refine wpAnyH_take (i := 1) (v := .pointer (some ⟨w.heap.size + 1, 0, none⟩)) rfl (by kernel_rfl) (by kernel_rfl) (by kernel_rfl) (fun _ _ _ h => h) (Or.inl ⟨by rfl, fun w9 hSw => ?_⟩) hHeld ?_
    · (try dsimp only at hSw); go_simp
    try simp only [Act.put, List.setIfInBounds_toArray, List.set_cons_zero, List.set_cons_succ]
    refine wpAnyH_take (i := 2) (v := .int .i64 v0) rfl (by kernel_rfl) (by kernel_rfl) (by kernel_rfl) (fun _ _ _ h => h) (Or.inl ⟨by rfl, fun w9 hSw => ?_⟩) hHeld ?_
    · (try dsimp only at hSw); go_simp
    try simp only [Act.put, List.setIfInBounds_toArray, List.set_cons_zero, List.set_cons_succ]
    refine wpAnyH_take (i := 3) (v := .pointer (some ⟨w.heap.size + 1, 1, none⟩)) rfl (by kernel_rfl) (by kernel_rfl) (by kernel_rfl) (fun _ _ _ h => h) (Or.inl ⟨by rfl, fun w9 hSw => ?_⟩) hHeld ?_
    · (try dsimp only at hSw); go_simp
    try simp only [Act.put, List.setIfInBounds_toArray, List.set_cons_zero, List.set_cons_succ]
    refine wpAnyH_take (i := 4) (v := .int .i64 0) rfl (by kernel_rfl) (by kernel_rfl) (by kernel_rfl) (fun _ _ _ h => h) (Or.inl ⟨by rfl, fun w9 hSw => ?_⟩) hHeld ?_
    · (try dsimp only at hSw); go_simp
    try simp only [Act.put, List.setIfInBounds_toArray, List.set_cons_zero, List.set_cons_succ]
    refine wpAnyH_take (i := 5) (v := .pointer (some ⟨w.heap.size + 1, 2, none⟩)) rfl (by kernel_rfl) (by kernel_rfl) (by kernel_rfl) (fun _ _ _ h => h) (Or.inl ⟨by rfl, fun w9 hSw => ?_⟩) hHeld ?_
    · (try dsimp only at hSw); go_simp
    try simp only [Act.put, List.setIfInBounds_toArray, List.set_cons_zero, List.set_cons_succ]
    refine wpAnyH_take (i := 6) (v := .int .i64 0) rfl (by kernel_rfl) (by kernel_rfl) (by kernel_rfl) (fun _ _ _ h => h) (Or.inl ⟨by rfl, fun w9 hSw => ?_⟩) hHeld ?_
    · (try dsimp only at hSw); go_simp
    try simp only [Act.put, List.setIfInBounds_toArray, List.set_cons_zero, List.set_cons_succ]
    refine wpAnyH_take (i := 8) (v := .pointer (some ⟨w.heap.size, 1, none⟩)) rfl (by kernel_rfl) (by kernel_rfl) (by kernel_rfl) (fun _ _ _ h => h) (Or.inl ⟨by rfl, fun w9 hSw => ?_⟩) hHeld ?_
    · (try dsimp only at hSw); go_simp
    try simp only [Act.put, List.setIfInBounds_toArray, List.set_cons_zero, List.set_cons_succ]
    refine wpAnyH_take (i := 9) (v := .int .i64 v) rfl (by kernel_rfl) (by kernel_rfl) (by kernel_rfl) (fun _ _ _ h => h) (Or.inl ⟨by rfl, fun w9 hSw => ?_⟩) hHeld ?_
    · (try dsimp only at hSw); go_simp
    try simp only [Act.put, List.setIfInBounds_toArray, List.set_cons_zero, List.set_cons_succ]
    refine wpAnyH_ready (rs := [7]) (by kernel_rfl) (by simp) ?_
    refine AllReadyH.cons rfl (fun K hK => ?_) AllReadyH.nil
    go_simp
    go_at_call 66
    (with_reducible refine (rwidth_any _ _ _ _ _ _ _ _ _ _).mono ?_)
    rintro e v9 ⟨rfl, hb9⟩
    go_wp2_with fail
    refine hK.out _ _ (nine_keep hb9 HZ.out HS.out) (fun hHeld => ?_)
    clear hK K
    try simp only [Act.put, List.setIfInBounds_toArray, List.set_cons_zero, List.set_cons_succ]
    refine wpAnyH_take (i := 10) (v := .bool true) rfl (by kernel_rfl) (by kernel_rfl) (by kernel_rfl) (fun _ _ _ h => h) (Or.inl ⟨by rfl, fun w9 hSw => ?_⟩) hHeld ?_
    · (try dsimp only at hSw); go_simp
    try simp only [Act.put, List.setIfInBounds_toArray, List.set_cons_zero, List.set_cons_succ]
    refine wpAnyH_take (i := 11) (v := .bool true) rfl (by kernel_rfl) (by kernel_rfl) (by kernel_rfl) (fun _ _ _ h => h) (Or.inl ⟨by rfl, fun w9 hSw => ?_⟩) hHeld ?_
    · (try dsimp only at hSw); go_simp
    try simp only [Act.put, List.setIfInBounds_toArray, List.set_cons_zero, List.set_cons_succ]
    refine wpAnyH_take (i := 12) (v := undef) rfl (by kernel_rfl) (by kernel_rfl) (by kernel_rfl) (fun _ _ _ h => h) (Or.inr ⟨by rfl, rfl⟩) hHeld ?_
    try simp only [Act.put, List.setIfInBounds_toArray, List.set_cons_zero, List.set_cons_succ]
    refine wpAnyH_take (i := 13) (v := undef) rfl (by kernel_rfl) (by kernel_rfl) (by kernel_rfl) (fun _ _ _ h => h) (Or.inr ⟨by rfl, rfl⟩) hHeld ?_
    try simp only [Act.put, List.setIfInBounds_toArray, List.set_cons_zero, List.set_cons_succ]
    refine wpAnyH_take (i := 14) (v := undef) rfl (by kernel_rfl) (by kernel_rfl) (by kernel_rfl) (fun _ _ _ h => h) (Or.inr ⟨by rfl, rfl⟩) hHeld ?_
    try simp only [Act.put, List.setIfInBounds_toArray, List.set_cons_zero, List.set_cons_succ]
    refine wpAnyH_take (i := 15) (v := .bool true) rfl (by kernel_rfl) (by kernel_rfl) (by kernel_rfl) (fun _ _ _ h => h) (Or.inl ⟨by rfl, fun w9 hSw => ?_⟩) hHeld ?_
    · (try dsimp only at hSw); go_simp
    try simp only [Act.put, List.setIfInBounds_toArray, List.set_cons_zero, List.set_cons_succ]
    refine wpAnyH_done (by kernel_rfl) ?_ _
    go_wp2
    go_ret
    exact ⟨ret_int HR.out.symm, HB.out.trans (hb9.mono HB.out.size)⟩

end Go.Proofs.Ytdbcpnpcnkccaaa
