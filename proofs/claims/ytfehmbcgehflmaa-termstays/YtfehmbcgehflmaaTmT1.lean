/-
  Terms told anew: contracts of moved, and of the reference's told.
-/
import Derived.Test.YtfehmbcgehflmaaTmM1
namespace Go.Proofs.Ytfehmbcgehflmaa
set_option linter.unusedSimpArgs false
set_option linter.unusedVariables false
open Go.RowKit Go.Maps

/-- A node whose kids stand elsewhere. -/
def Tm.mvd (nd : Tm.Nd) (at' : Nat → Int) : Tm.Nd := ⟨nd.op, nd.w, nd.n, if 1 ≤ Tm.kidn nd.op then at' nd.a.toNat else nd.a, if 2 ≤ Tm.kidn nd.op then at' nd.b.toNat else nd.b, if 3 ≤ Tm.kidn nd.op then at' nd.c.toNat else nd.c⟩
/-- Integers in memory. -/
def InR (w : World) (A : Option Addr) (len : Nat) (at' : Nat → Int) : Prop := 0 < len → ∃ b o, A = some ⟨b, o, none⟩ ∧ b < w.heap.size ∧ ∀ i, i < len → w.cell? ⟨b, o + i, none⟩ = some (.int .i64 (at' i))
theorem InR.below {w w' : World} {A : Option Addr} {len : Nat} {at' : Nat → Int} (h : InR w A len at') (hb : Below w.heap.size w w') : InR w' A len at' := fun h0 => by
  obtain ⟨b, o, e, hlt, hx⟩ := h h0
  exact ⟨b, o, e, Nat.lt_of_lt_of_le hlt hb.size, fun i hi => (hb.cell (p := ⟨b, o + i, none⟩) hlt).trans (hx i hi)⟩

set_option maxRecDepth 20000 in
set_option maxHeartbeats 1000000 in
theorem mv0 (op v n a b c : Int) (A : Option Addr) (len cap : Nat) (w : World) (hk : Tm.kidn op = 0) :
    Calls Try.prog 32 #[.agg #[.int .i64 op, .int .i64 v, .int .u64 n, .int .i64 a, .int .i64 b, .int .i64 c], .slice A len cap] w fun e w' => e = .returned (.agg #[.int .i64 op, .int .i64 v, .int .u64 n, .int .i64 a, .int .i64 b, .int .i64 c]) ∧ Below w.heap.size w w' := by
  have HK := Lib.hid hk
  clear hk
  go_enter Try.func32, Try.ntmps32
  go_wp2_with (go_at_call 12; refine (kids_any _ _).mono ?_; rintro e w' ⟨rfl, rfl⟩; rw [HK.out])
  refine wp_loop_rounds 1 ?_
  rw [rounds_succ]; go_wp2_with (go_at_call 12; refine (kids_any _ _).mono ?_; rintro e w' ⟨rfl, rfl⟩; rw [HK.out])
  exact bodyPost_ret (v := .agg #[.int .i64 op, .int .i64 v, .int .u64 n, .int .i64 a, .int .i64 b, .int .i64 c]) (by simp [results, Try.results32, go_sem]) rfl ⟨rfl, ((Below.refl _ _).alloc (Nat.le_refl _) _).alloc (by simp) _⟩

set_option maxRecDepth 20000 in
set_option maxHeartbeats 1000000 in
theorem mv1 (op v n b c : Int) (b' o : Nat) (len cap : Nat) (w : World) (hk : Tm.kidn op = 1) (hb : b' < w.heap.size) (i0 : Nat) (x0 : Int) (l0 : i0 < len) (q0 : w.cell? ⟨b', o + i0, none⟩ = some (.int .i64 x0)) :
    Calls Try.prog 32 #[.agg #[.int .i64 op, .int .i64 v, .int .u64 n, .int .i64 (i0 : Nat), .int .i64 b, .int .i64 c], .slice (some ⟨b', o, none⟩) len cap] w fun e w' => e = .returned (.agg #[.int .i64 op, .int .i64 v, .int .u64 n, .int .i64 x0, .int .i64 b, .int .i64 c]) ∧ Below w.heap.size w w' := by
  have HK := Lib.hid hk
  clear hk
  have m1 : b' < w.heap.size + 1 := by omega
  have n1 : w.heap.size ≠ b' := by omega
  have l0' : (i0 : Int) < len := by omega
  go_enter Try.func32, Try.ntmps32
  go_wp2_with (go_at_call 12; refine (kids_any _ _).mono ?_; rintro e w' ⟨rfl, rfl⟩; rw [HK.out])
  refine wp_loop_rounds 2 ?_
  rw [rounds_succ]; go_wp2_with (go_at_call 12; refine (kids_any _ _).mono ?_; rintro e w' ⟨rfl, rfl⟩; rw [HK.out])
  rw [rounds_succ]; go_wp2_with (go_at_call 12; refine (kids_any _ _).mono ?_; rintro e w' ⟨rfl, rfl⟩; rw [HK.out])
  exact bodyPost_ret (v := .agg #[.int .i64 op, .int .i64 v, .int .u64 n, .int .i64 x0, .int .i64 b, .int .i64 c]) (by simp [results, Try.results32, go_sem]) rfl ⟨rfl, ((Below.refl _ _).alloc (Nat.le_refl _) _).alloc (by simp) _⟩

set_option maxRecDepth 20000 in
set_option maxHeartbeats 1000000 in
theorem mv2 (op v n c : Int) (b' o : Nat) (len cap : Nat) (w : World) (hk : Tm.kidn op = 2) (hb : b' < w.heap.size) (i0 : Nat) (x0 : Int) (l0 : i0 < len) (q0 : w.cell? ⟨b', o + i0, none⟩ = some (.int .i64 x0)) (i1 : Nat) (x1 : Int) (l1 : i1 < len) (q1 : w.cell? ⟨b', o + i1, none⟩ = some (.int .i64 x1)) :
    Calls Try.prog 32 #[.agg #[.int .i64 op, .int .i64 v, .int .u64 n, .int .i64 (i0 : Nat), .int .i64 (i1 : Nat), .int .i64 c], .slice (some ⟨b', o, none⟩) len cap] w fun e w' => e = .returned (.agg #[.int .i64 op, .int .i64 v, .int .u64 n, .int .i64 x0, .int .i64 x1, .int .i64 c]) ∧ Below w.heap.size w w' := by
  have HK := Lib.hid hk
  clear hk
  have m1 : b' < w.heap.size + 1 := by omega
  have n1 : w.heap.size ≠ b' := by omega
  have l0' : (i0 : Int) < len := by omega
  have l1' : (i1 : Int) < len := by omega
  go_enter Try.func32, Try.ntmps32
  go_wp2_with (go_at_call 12; refine (kids_any _ _).mono ?_; rintro e w' ⟨rfl, rfl⟩; rw [HK.out])
  refine wp_loop_rounds 3 ?_
  rw [rounds_succ]; go_wp2_with (go_at_call 12; refine (kids_any _ _).mono ?_; rintro e w' ⟨rfl, rfl⟩; rw [HK.out])
  rw [rounds_succ]; go_wp2_with (go_at_call 12; refine (kids_any _ _).mono ?_; rintro e w' ⟨rfl, rfl⟩; rw [HK.out])
  rw [rounds_succ]; go_wp2_with (go_at_call 12; refine (kids_any _ _).mono ?_; rintro e w' ⟨rfl, rfl⟩; rw [HK.out])
  exact bodyPost_ret (v := .agg #[.int .i64 op, .int .i64 v, .int .u64 n, .int .i64 x0, .int .i64 x1, .int .i64 c]) (by simp [results, Try.results32, go_sem]) rfl ⟨rfl, ((Below.refl _ _).alloc (Nat.le_refl _) _).alloc (by simp) _⟩

set_option maxRecDepth 20000 in
set_option maxHeartbeats 1000000 in
theorem mv3 (op v n : Int) (b' o : Nat) (len cap : Nat) (w : World) (hk : Tm.kidn op = 3) (hb : b' < w.heap.size) (i0 : Nat) (x0 : Int) (l0 : i0 < len) (q0 : w.cell? ⟨b', o + i0, none⟩ = some (.int .i64 x0)) (i1 : Nat) (x1 : Int) (l1 : i1 < len) (q1 : w.cell? ⟨b', o + i1, none⟩ = some (.int .i64 x1)) (i2 : Nat) (x2 : Int) (l2 : i2 < len) (q2 : w.cell? ⟨b', o + i2, none⟩ = some (.int .i64 x2)) :
    Calls Try.prog 32 #[.agg #[.int .i64 op, .int .i64 v, .int .u64 n, .int .i64 (i0 : Nat), .int .i64 (i1 : Nat), .int .i64 (i2 : Nat)], .slice (some ⟨b', o, none⟩) len cap] w fun e w' => e = .returned (.agg #[.int .i64 op, .int .i64 v, .int .u64 n, .int .i64 x0, .int .i64 x1, .int .i64 x2]) ∧ Below w.heap.size w w' := by
  have HK := Lib.hid hk
  clear hk
  have m1 : b' < w.heap.size + 1 := by omega
  have n1 : w.heap.size ≠ b' := by omega
  have l0' : (i0 : Int) < len := by omega
  have l1' : (i1 : Int) < len := by omega
  have l2' : (i2 : Int) < len := by omega
  go_enter Try.func32, Try.ntmps32
  go_wp2_with (go_at_call 12; refine (kids_any _ _).mono ?_; rintro e w' ⟨rfl, rfl⟩; rw [HK.out])
  refine wp_loop_rounds 4 ?_
  rw [rounds_succ]; go_wp2_with (go_at_call 12; refine (kids_any _ _).mono ?_; rintro e w' ⟨rfl, rfl⟩; rw [HK.out])
  rw [rounds_succ]; go_wp2_with (go_at_call 12; refine (kids_any _ _).mono ?_; rintro e w' ⟨rfl, rfl⟩; rw [HK.out])
  rw [rounds_succ]; go_wp2_with (go_at_call 12; refine (kids_any _ _).mono ?_; rintro e w' ⟨rfl, rfl⟩; rw [HK.out])
  rw [rounds_succ]; go_wp2_with (go_at_call 12; refine (kids_any _ _).mono ?_; rintro e w' ⟨rfl, rfl⟩; rw [HK.out])
  exact bodyPost_ret (v := .agg #[.int .i64 op, .int .i64 v, .int .u64 n, .int .i64 x0, .int .i64 x1, .int .i64 x2]) (by simp [results, Try.results32, go_sem]) rfl ⟨rfl, ((Below.refl _ _).alloc (Nat.le_refl _) _).alloc (by simp) _⟩

set_option maxRecDepth 20000 in
set_option maxHeartbeats 1000000 in
theorem tl0 (op v n a b c : Int) (A : Option Addr) (len cap : Nat) (w : World) (hk : Tm.kidn op = 0) :
    Calls Try.prog 33 #[.agg #[.int .i64 op, .int .i64 v, .int .u64 n, .int .i64 a, .int .i64 b, .int .i64 c], .slice A len cap] w fun e w' => e = .returned (.agg #[.int .i64 op, .int .i64 v, .int .u64 n, .int .i64 a, .int .i64 b, .int .i64 c]) ∧ Below w.heap.size w w' := by
  have HK := Lib.hid hk
  clear hk
  go_enter Try.func33, Try.ntmps33
  go_wp2_with (go_at_call 13; refine (rkids_any _ _).mono ?_; rintro e w' ⟨rfl, rfl⟩; rw [HK.out])
  refine wp_loop_rounds 1 ?_
  rw [rounds_succ]; go_wp2_with (go_at_call 13; refine (rkids_any _ _).mono ?_; rintro e w' ⟨rfl, rfl⟩; rw [HK.out])
  exact bodyPost_ret (v := .agg #[.int .i64 op, .int .i64 v, .int .u64 n, .int .i64 a, .int .i64 b, .int .i64 c]) (by simp [results, Try.results33, go_sem]) rfl ⟨rfl, ((Below.refl _ _).alloc (Nat.le_refl _) _).alloc (by simp) _⟩

set_option maxRecDepth 20000 in
set_option maxHeartbeats 1000000 in
theorem tl1 (op v n b c : Int) (b' o : Nat) (len cap : Nat) (w : World) (hk : Tm.kidn op = 1) (hb : b' < w.heap.size) (i0 : Nat) (x0 : Int) (l0 : i0 < len) (q0 : w.cell? ⟨b', o + i0, none⟩ = some (.int .i64 x0)) :
    Calls Try.prog 33 #[.agg #[.int .i64 op, .int .i64 v, .int .u64 n, .int .i64 (i0 : Nat), .int .i64 b, .int .i64 c], .slice (some ⟨b', o, none⟩) len cap] w fun e w' => e = .returned (.agg #[.int .i64 op, .int .i64 v, .int .u64 n, .int .i64 x0, .int .i64 b, .int .i64 c]) ∧ Below w.heap.size w w' := by
  have HK := Lib.hid hk
  clear hk
  have m1 : b' < w.heap.size + 1 := by omega
  have n1 : w.heap.size ≠ b' := by omega
  have l0' : (i0 : Int) < len := by omega
  go_enter Try.func33, Try.ntmps33
  go_wp2_with (go_at_call 13; refine (rkids_any _ _).mono ?_; rintro e w' ⟨rfl, rfl⟩; rw [HK.out])
  refine wp_loop_rounds 2 ?_
  rw [rounds_succ]; go_wp2_with (go_at_call 13; refine (rkids_any _ _).mono ?_; rintro e w' ⟨rfl, rfl⟩; rw [HK.out])
  rw [rounds_succ]; go_wp2_with (go_at_call 13; refine (rkids_any _ _).mono ?_; rintro e w' ⟨rfl, rfl⟩; rw [HK.out])
  exact bodyPost_ret (v := .agg #[.int .i64 op, .int .i64 v, .int .u64 n, .int .i64 x0, .int .i64 b, .int .i64 c]) (by simp [results, Try.results33, go_sem]) rfl ⟨rfl, ((Below.refl _ _).alloc (Nat.le_refl _) _).alloc (by simp) _⟩

set_option maxRecDepth 20000 in
set_option maxHeartbeats 1000000 in
theorem tl2 (op v n c : Int) (b' o : Nat) (len cap : Nat) (w : World) (hk : Tm.kidn op = 2) (hb : b' < w.heap.size) (i0 : Nat) (x0 : Int) (l0 : i0 < len) (q0 : w.cell? ⟨b', o + i0, none⟩ = some (.int .i64 x0)) (i1 : Nat) (x1 : Int) (l1 : i1 < len) (q1 : w.cell? ⟨b', o + i1, none⟩ = some (.int .i64 x1)) :
    Calls Try.prog 33 #[.agg #[.int .i64 op, .int .i64 v, .int .u64 n, .int .i64 (i0 : Nat), .int .i64 (i1 : Nat), .int .i64 c], .slice (some ⟨b', o, none⟩) len cap] w fun e w' => e = .returned (.agg #[.int .i64 op, .int .i64 v, .int .u64 n, .int .i64 x0, .int .i64 x1, .int .i64 c]) ∧ Below w.heap.size w w' := by
  have HK := Lib.hid hk
  clear hk
  have m1 : b' < w.heap.size + 1 := by omega
  have n1 : w.heap.size ≠ b' := by omega
  have l0' : (i0 : Int) < len := by omega
  have l1' : (i1 : Int) < len := by omega
  go_enter Try.func33, Try.ntmps33
  go_wp2_with (go_at_call 13; refine (rkids_any _ _).mono ?_; rintro e w' ⟨rfl, rfl⟩; rw [HK.out])
  refine wp_loop_rounds 3 ?_
  rw [rounds_succ]; go_wp2_with (go_at_call 13; refine (rkids_any _ _).mono ?_; rintro e w' ⟨rfl, rfl⟩; rw [HK.out])
  rw [rounds_succ]; go_wp2_with (go_at_call 13; refine (rkids_any _ _).mono ?_; rintro e w' ⟨rfl, rfl⟩; rw [HK.out])
  rw [rounds_succ]; go_wp2_with (go_at_call 13; refine (rkids_any _ _).mono ?_; rintro e w' ⟨rfl, rfl⟩; rw [HK.out])
  exact bodyPost_ret (v := .agg #[.int .i64 op, .int .i64 v, .int .u64 n, .int .i64 x0, .int .i64 x1, .int .i64 c]) (by simp [results, Try.results33, go_sem]) rfl ⟨rfl, ((Below.refl _ _).alloc (Nat.le_refl _) _).alloc (by simp) _⟩

set_option maxRecDepth 20000 in
set_option maxHeartbeats 1000000 in
theorem tl3 (op v n : Int) (b' o : Nat) (len cap : Nat) (w : World) (hk : Tm.kidn op = 3) (hb : b' < w.heap.size) (i0 : Nat) (x0 : Int) (l0 : i0 < len) (q0 : w.cell? ⟨b', o + i0, none⟩ = some (.int .i64 x0)) (i1 : Nat) (x1 : Int) (l1 : i1 < len) (q1 : w.cell? ⟨b', o + i1, none⟩ = some (.int .i64 x1)) (i2 : Nat) (x2 : Int) (l2 : i2 < len) (q2 : w.cell? ⟨b', o + i2, none⟩ = some (.int .i64 x2)) :
    Calls Try.prog 33 #[.agg #[.int .i64 op, .int .i64 v, .int .u64 n, .int .i64 (i0 : Nat), .int .i64 (i1 : Nat), .int .i64 (i2 : Nat)], .slice (some ⟨b', o, none⟩) len cap] w fun e w' => e = .returned (.agg #[.int .i64 op, .int .i64 v, .int .u64 n, .int .i64 x0, .int .i64 x1, .int .i64 x2]) ∧ Below w.heap.size w w' := by
  have HK := Lib.hid hk
  clear hk
  have m1 : b' < w.heap.size + 1 := by omega
  have n1 : w.heap.size ≠ b' := by omega
  have l0' : (i0 : Int) < len := by omega
  have l1' : (i1 : Int) < len := by omega
  have l2' : (i2 : Int) < len := by omega
  go_enter Try.func33, Try.ntmps33
  go_wp2_with (go_at_call 13; refine (rkids_any _ _).mono ?_; rintro e w' ⟨rfl, rfl⟩; rw [HK.out])
  refine wp_loop_rounds 4 ?_
  rw [rounds_succ]; go_wp2_with (go_at_call 13; refine (rkids_any _ _).mono ?_; rintro e w' ⟨rfl, rfl⟩; rw [HK.out])
  rw [rounds_succ]; go_wp2_with (go_at_call 13; refine (rkids_any _ _).mono ?_; rintro e w' ⟨rfl, rfl⟩; rw [HK.out])
  rw [rounds_succ]; go_wp2_with (go_at_call 13; refine (rkids_any _ _).mono ?_; rintro e w' ⟨rfl, rfl⟩; rw [HK.out])
  rw [rounds_succ]; go_wp2_with (go_at_call 13; refine (rkids_any _ _).mono ?_; rintro e w' ⟨rfl, rfl⟩; rw [HK.out])
  exact bodyPost_ret (v := .agg #[.int .i64 op, .int .i64 v, .int .u64 n, .int .i64 x0, .int .i64 x1, .int .i64 x2]) (by simp [results, Try.results33, go_sem]) rfl ⟨rfl, ((Below.refl _ _).alloc (Nat.le_refl _) _).alloc (by simp) _⟩

theorem moved_any (nd : Tm.Nd) (A : Option Addr) (len cap : Nat) (at' : Nat → Int) (w : World) (h : InR w A len at') (hk : Tm.kok nd len = true) :
    Calls Try.prog 32 #[ndv nd, .slice A len cap] w fun e w' => e = .returned (ndv (Tm.mvd nd at')) ∧ Below w.heap.size w w' := by
  obtain ⟨op, v, n, a, b, c⟩ := nd
  obtain ⟨k0, k1, k2⟩ := Tm.kok_in hk
  dsimp only at k0 k1 k2
  have h4 : Tm.kidn op = 0 ∨ Tm.kidn op = 1 ∨ Tm.kidn op = 2 ∨ Tm.kidn op = 3 := by have := Tm.kidn_le op; omega
  rcases h4 with e | e | e | e
  · simpa [Tm.mvd, e] using mv0 op v n a b c A len cap w e
  · obtain ⟨r0, t0⟩ := k0 (by omega)
    obtain ⟨i0, rfl⟩ := Int.eq_ofNat_of_zero_le r0
    obtain ⟨g, o, rfl, hb, hx⟩ := h (by omega)
    simpa [Tm.mvd, e] using mv1 op v n b c g o len cap w e hb i0 _ (by omega) (hx i0 (by omega))
  · obtain ⟨r0, t0⟩ := k0 (by omega)
    obtain ⟨i0, rfl⟩ := Int.eq_ofNat_of_zero_le r0
    obtain ⟨r1, t1⟩ := k1 (by omega)
    obtain ⟨i1, rfl⟩ := Int.eq_ofNat_of_zero_le r1
    obtain ⟨g, o, rfl, hb, hx⟩ := h (by omega)
    simpa [Tm.mvd, e] using mv2 op v n c g o len cap w e hb i0 _ (by omega) (hx i0 (by omega)) i1 _ (by omega) (hx i1 (by omega))
  · obtain ⟨r0, t0⟩ := k0 (by omega)
    obtain ⟨i0, rfl⟩ := Int.eq_ofNat_of_zero_le r0
    obtain ⟨r1, t1⟩ := k1 (by omega)
    obtain ⟨i1, rfl⟩ := Int.eq_ofNat_of_zero_le r1
    obtain ⟨r2, t2⟩ := k2 (by omega)
    obtain ⟨i2, rfl⟩ := Int.eq_ofNat_of_zero_le r2
    obtain ⟨g, o, rfl, hb, hx⟩ := h (by omega)
    simpa [Tm.mvd, e] using mv3 op v n g o len cap w e hb i0 _ (by omega) (hx i0 (by omega)) i1 _ (by omega) (hx i1 (by omega)) i2 _ (by omega) (hx i2 (by omega))
theorem told_any (nd : Tm.Nd) (A : Option Addr) (len cap : Nat) (at' : Nat → Int) (w : World) (h : InR w A len at') (hk : Tm.kok nd len = true) :
    Calls Try.prog 33 #[ndv nd, .slice A len cap] w fun e w' => e = .returned (ndv (Tm.mvd nd at')) ∧ Below w.heap.size w w' := by
  obtain ⟨op, v, n, a, b, c⟩ := nd
  obtain ⟨k0, k1, k2⟩ := Tm.kok_in hk
  dsimp only at k0 k1 k2
  have h4 : Tm.kidn op = 0 ∨ Tm.kidn op = 1 ∨ Tm.kidn op = 2 ∨ Tm.kidn op = 3 := by have := Tm.kidn_le op; omega
  rcases h4 with e | e | e | e
  · simpa [Tm.mvd, e] using tl0 op v n a b c A len cap w e
  · obtain ⟨r0, t0⟩ := k0 (by omega)
    obtain ⟨i0, rfl⟩ := Int.eq_ofNat_of_zero_le r0
    obtain ⟨g, o, rfl, hb, hx⟩ := h (by omega)
    simpa [Tm.mvd, e] using tl1 op v n b c g o len cap w e hb i0 _ (by omega) (hx i0 (by omega))
  · obtain ⟨r0, t0⟩ := k0 (by omega)
    obtain ⟨i0, rfl⟩ := Int.eq_ofNat_of_zero_le r0
    obtain ⟨r1, t1⟩ := k1 (by omega)
    obtain ⟨i1, rfl⟩ := Int.eq_ofNat_of_zero_le r1
    obtain ⟨g, o, rfl, hb, hx⟩ := h (by omega)
    simpa [Tm.mvd, e] using tl2 op v n c g o len cap w e hb i0 _ (by omega) (hx i0 (by omega)) i1 _ (by omega) (hx i1 (by omega))
  · obtain ⟨r0, t0⟩ := k0 (by omega)
    obtain ⟨i0, rfl⟩ := Int.eq_ofNat_of_zero_le r0
    obtain ⟨r1, t1⟩ := k1 (by omega)
    obtain ⟨i1, rfl⟩ := Int.eq_ofNat_of_zero_le r1
    obtain ⟨r2, t2⟩ := k2 (by omega)
    obtain ⟨i2, rfl⟩ := Int.eq_ofNat_of_zero_le r2
    obtain ⟨g, o, rfl, hb, hx⟩ := h (by omega)
    simpa [Tm.mvd, e] using tl3 op v n g o len cap w e hb i0 _ (by omega) (hx i0 (by omega)) i1 _ (by omega) (hx i1 (by omega)) i2 _ (by omega) (hx i2 (by omega))
end Go.Proofs.Ytfehmbcgehflmaa
