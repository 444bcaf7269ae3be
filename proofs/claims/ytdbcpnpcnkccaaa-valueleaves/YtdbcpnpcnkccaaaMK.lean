/-
  Terms told anew: contracts of moved, and of the reference's told.
  What a node hangs on: the contract of hangsOn.
  The contract of Term.
  The document's example: awake.
  Lists of nodes appended; what the laws share.
  Two appends in one statement: onto an empty row the list, onto that one node.
  Contracts of the reference's Find, and of Same.
-/
import Derived.Test.YtdbcpnpcnkccaaaMJ
import Derived.Deep.OwnRows
import Derived.Test.YtdbcpnpcnkccaaaME
import Derived.ChangeKeysEq
set_option linter.unusedSimpArgs false
set_option linter.unusedVariables false
namespace Go.Proofs.Ytdbcpnpcnkccaaa
set_option maxRecDepth 100000
open Go.RowKit Go.Maps

/-- A node whose kids stand elsewhere. -/
def Tm.mvd (nd : Tm.Nd) (at' : Nat → Int) : Tm.Nd := ⟨nd.op, nd.w, nd.n, if 1 ≤ Tm.kidn nd.op then at' nd.a.toNat else nd.a, if 2 ≤ Tm.kidn nd.op then at' nd.b.toNat else nd.b, if 3 ≤ Tm.kidn nd.op then at' nd.c.toNat else nd.c⟩
/-- Integers in memory. -/
def InR (w : World) (A : Option Addr) (len : Nat) (at' : Nat → Int) : Prop := 0 < len → ∃ b o, A = some ⟨b, o, none⟩ ∧ b < w.heap.size ∧ ∀ i, i < len → w.cell? ⟨b, o + i, none⟩ = some (.int .i64 (at' i))
theorem InR.below {w w' : World} {A : Option Addr} {len : Nat} {at' : Nat → Int} (h : InR w A len at') (hb : Below w.heap.size w w') : InR w' A len at' := fun h0 => by
  obtain ⟨b, o, e, hlt, hx⟩ := h h0
  exact ⟨b, o, e, Nat.lt_of_lt_of_le hlt hb.size, fun i hi => (hb.cell (p := ⟨b, o + i, none⟩) hlt).trans (hx i hi)⟩

set_option maxRecDepth 20000 in
set_option maxHeartbeats 1000000 in
theorem mv0 (op v n a b c : Int) (A : Option Addr) (len cap : Nat) (w : World) (hk : Tm.kidn op = 0) :
    Calls Try.prog 46 #[.agg #[.int .i64 op, .int .i64 v, .int .u64 n, .int .i64 a, .int .i64 b, .int .i64 c], .slice A len cap] w fun e w' => e = .returned (.agg #[.int .i64 op, .int .i64 v, .int .u64 n, .int .i64 a, .int .i64 b, .int .i64 c]) ∧ Below w.heap.size w w' := by
  have HK := Lib.hid hk
  clear hk
  go_enter Try.func46, Try.ntmps46
  go_wp2_with (go_at_call 73; refine (kids_any _ _).mono ?_; rintro e w' ⟨rfl, rfl⟩; rw [HK.out])
  refine wp_loop_rounds 1 ?_
  rw [rounds_succ]; go_wp2_with (go_at_call 73; refine (kids_any _ _).mono ?_; rintro e w' ⟨rfl, rfl⟩; rw [HK.out])
  exact bodyPost_ret (v := .agg #[.int .i64 op, .int .i64 v, .int .u64 n, .int .i64 a, .int .i64 b, .int .i64 c]) (by simp [results, Try.results46, go_sem]) rfl ⟨rfl, ((Below.refl _ _).alloc (Nat.le_refl _) _).alloc (by simp) _⟩

set_option maxRecDepth 20000 in
set_option maxHeartbeats 1000000 in
theorem mv1 (op v n b c : Int) (b' o : Nat) (len cap : Nat) (w : World) (hk : Tm.kidn op = 1) (hb : b' < w.heap.size) (i0 : Nat) (x0 : Int) (l0 : i0 < len) (q0 : w.cell? ⟨b', o + i0, none⟩ = some (.int .i64 x0)) :
    Calls Try.prog 46 #[.agg #[.int .i64 op, .int .i64 v, .int .u64 n, .int .i64 (i0 : Nat), .int .i64 b, .int .i64 c], .slice (some ⟨b', o, none⟩) len cap] w fun e w' => e = .returned (.agg #[.int .i64 op, .int .i64 v, .int .u64 n, .int .i64 x0, .int .i64 b, .int .i64 c]) ∧ Below w.heap.size w w' := by
  have HK := Lib.hid hk
  clear hk
  have m1 : b' < w.heap.size + 1 := by omega
  have n1 : w.heap.size ≠ b' := by omega
  have l0' : (i0 : Int) < len := by omega
  go_enter Try.func46, Try.ntmps46
  go_wp2_with (go_at_call 73; refine (kids_any _ _).mono ?_; rintro e w' ⟨rfl, rfl⟩; rw [HK.out])
  refine wp_loop_rounds 2 ?_
  rw [rounds_succ]; go_wp2_with (go_at_call 73; refine (kids_any _ _).mono ?_; rintro e w' ⟨rfl, rfl⟩; rw [HK.out])
  rw [rounds_succ]; go_wp2_with (go_at_call 73; refine (kids_any _ _).mono ?_; rintro e w' ⟨rfl, rfl⟩; rw [HK.out])
  exact bodyPost_ret (v := .agg #[.int .i64 op, .int .i64 v, .int .u64 n, .int .i64 x0, .int .i64 b, .int .i64 c]) (by simp [results, Try.results46, go_sem]) rfl ⟨rfl, ((Below.refl _ _).alloc (Nat.le_refl _) _).alloc (by simp) _⟩

set_option maxRecDepth 20000 in
set_option maxHeartbeats 1000000 in
theorem mv2 (op v n c : Int) (b' o : Nat) (len cap : Nat) (w : World) (hk : Tm.kidn op = 2) (hb : b' < w.heap.size) (i0 : Nat) (x0 : Int) (l0 : i0 < len) (q0 : w.cell? ⟨b', o + i0, none⟩ = some (.int .i64 x0)) (i1 : Nat) (x1 : Int) (l1 : i1 < len) (q1 : w.cell? ⟨b', o + i1, none⟩ = some (.int .i64 x1)) :
    Calls Try.prog 46 #[.agg #[.int .i64 op, .int .i64 v, .int .u64 n, .int .i64 (i0 : Nat), .int .i64 (i1 : Nat), .int .i64 c], .slice (some ⟨b', o, none⟩) len cap] w fun e w' => e = .returned (.agg #[.int .i64 op, .int .i64 v, .int .u64 n, .int .i64 x0, .int .i64 x1, .int .i64 c]) ∧ Below w.heap.size w w' := by
  have HK := Lib.hid hk
  clear hk
  have m1 : b' < w.heap.size + 1 := by omega
  have n1 : w.heap.size ≠ b' := by omega
  have l0' : (i0 : Int) < len := by omega
  have l1' : (i1 : Int) < len := by omega
  go_enter Try.func46, Try.ntmps46
  go_wp2_with (go_at_call 73; refine (kids_any _ _).mono ?_; rintro e w' ⟨rfl, rfl⟩; rw [HK.out])
  refine wp_loop_rounds 3 ?_
  rw [rounds_succ]; go_wp2_with (go_at_call 73; refine (kids_any _ _).mono ?_; rintro e w' ⟨rfl, rfl⟩; rw [HK.out])
  rw [rounds_succ]; go_wp2_with (go_at_call 73; refine (kids_any _ _).mono ?_; rintro e w' ⟨rfl, rfl⟩; rw [HK.out])
  rw [rounds_succ]; go_wp2_with (go_at_call 73; refine (kids_any _ _).mono ?_; rintro e w' ⟨rfl, rfl⟩; rw [HK.out])
  exact bodyPost_ret (v := .agg #[.int .i64 op, .int .i64 v, .int .u64 n, .int .i64 x0, .int .i64 x1, .int .i64 c]) (by simp [results, Try.results46, go_sem]) rfl ⟨rfl, ((Below.refl _ _).alloc (Nat.le_refl _) _).alloc (by simp) _⟩

set_option maxRecDepth 20000 in
set_option maxHeartbeats 1000000 in
theorem mv3 (op v n : Int) (b' o : Nat) (len cap : Nat) (w : World) (hk : Tm.kidn op = 3) (hb : b' < w.heap.size) (i0 : Nat) (x0 : Int) (l0 : i0 < len) (q0 : w.cell? ⟨b', o + i0, none⟩ = some (.int .i64 x0)) (i1 : Nat) (x1 : Int) (l1 : i1 < len) (q1 : w.cell? ⟨b', o + i1, none⟩ = some (.int .i64 x1)) (i2 : Nat) (x2 : Int) (l2 : i2 < len) (q2 : w.cell? ⟨b', o + i2, none⟩ = some (.int .i64 x2)) :
    Calls Try.prog 46 #[.agg #[.int .i64 op, .int .i64 v, .int .u64 n, .int .i64 (i0 : Nat), .int .i64 (i1 : Nat), .int .i64 (i2 : Nat)], .slice (some ⟨b', o, none⟩) len cap] w fun e w' => e = .returned (.agg #[.int .i64 op, .int .i64 v, .int .u64 n, .int .i64 x0, .int .i64 x1, .int .i64 x2]) ∧ Below w.heap.size w w' := by
  have HK := Lib.hid hk
  clear hk
  have m1 : b' < w.heap.size + 1 := by omega
  have n1 : w.heap.size ≠ b' := by omega
  have l0' : (i0 : Int) < len := by omega
  have l1' : (i1 : Int) < len := by omega
  have l2' : (i2 : Int) < len := by omega
  go_enter Try.func46, Try.ntmps46
  go_wp2_with (go_at_call 73; refine (kids_any _ _).mono ?_; rintro e w' ⟨rfl, rfl⟩; rw [HK.out])
  refine wp_loop_rounds 4 ?_
  rw [rounds_succ]; go_wp2_with (go_at_call 73; refine (kids_any _ _).mono ?_; rintro e w' ⟨rfl, rfl⟩; rw [HK.out])
  rw [rounds_succ]; go_wp2_with (go_at_call 73; refine (kids_any _ _).mono ?_; rintro e w' ⟨rfl, rfl⟩; rw [HK.out])
  rw [rounds_succ]; go_wp2_with (go_at_call 73; refine (kids_any _ _).mono ?_; rintro e w' ⟨rfl, rfl⟩; rw [HK.out])
  rw [rounds_succ]; go_wp2_with (go_at_call 73; refine (kids_any _ _).mono ?_; rintro e w' ⟨rfl, rfl⟩; rw [HK.out])
  exact bodyPost_ret (v := .agg #[.int .i64 op, .int .i64 v, .int .u64 n, .int .i64 x0, .int .i64 x1, .int .i64 x2]) (by simp [results, Try.results46, go_sem]) rfl ⟨rfl, ((Below.refl _ _).alloc (Nat.le_refl _) _).alloc (by simp) _⟩

set_option maxRecDepth 20000 in
set_option maxHeartbeats 1000000 in
theorem tl0 (op v n a b c : Int) (A : Option Addr) (len cap : Nat) (w : World) (hk : Tm.kidn op = 0) :
    Calls Try.prog 62 #[.agg #[.int .i64 op, .int .i64 v, .int .u64 n, .int .i64 a, .int .i64 b, .int .i64 c], .slice A len cap] w fun e w' => e = .returned (.agg #[.int .i64 op, .int .i64 v, .int .u64 n, .int .i64 a, .int .i64 b, .int .i64 c]) ∧ Below w.heap.size w w' := by
  have HK := Lib.hid hk
  clear hk
  go_enter Try.func62, Try.ntmps62
  go_wp2_with (go_at_call 20; refine (rkids_any _ _).mono ?_; rintro e w' ⟨rfl, rfl⟩; rw [HK.out])
  refine wp_loop_rounds 1 ?_
  rw [rounds_succ]; go_wp2_with (go_at_call 20; refine (rkids_any _ _).mono ?_; rintro e w' ⟨rfl, rfl⟩; rw [HK.out])
  exact bodyPost_ret (v := .agg #[.int .i64 op, .int .i64 v, .int .u64 n, .int .i64 a, .int .i64 b, .int .i64 c]) (by simp [results, Try.results62, go_sem]) rfl ⟨rfl, ((Below.refl _ _).alloc (Nat.le_refl _) _).alloc (by simp) _⟩

set_option maxRecDepth 20000 in
set_option maxHeartbeats 1000000 in
theorem tl1 (op v n b c : Int) (b' o : Nat) (len cap : Nat) (w : World) (hk : Tm.kidn op = 1) (hb : b' < w.heap.size) (i0 : Nat) (x0 : Int) (l0 : i0 < len) (q0 : w.cell? ⟨b', o + i0, none⟩ = some (.int .i64 x0)) :
    Calls Try.prog 62 #[.agg #[.int .i64 op, .int .i64 v, .int .u64 n, .int .i64 (i0 : Nat), .int .i64 b, .int .i64 c], .slice (some ⟨b', o, none⟩) len cap] w fun e w' => e = .returned (.agg #[.int .i64 op, .int .i64 v, .int .u64 n, .int .i64 x0, .int .i64 b, .int .i64 c]) ∧ Below w.heap.size w w' := by
  have HK := Lib.hid hk
  clear hk
  have m1 : b' < w.heap.size + 1 := by omega
  have n1 : w.heap.size ≠ b' := by omega
  have l0' : (i0 : Int) < len := by omega
  go_enter Try.func62, Try.ntmps62
  go_wp2_with (go_at_call 20; refine (rkids_any _ _).mono ?_; rintro e w' ⟨rfl, rfl⟩; rw [HK.out])
  refine wp_loop_rounds 2 ?_
  rw [rounds_succ]; go_wp2_with (go_at_call 20; refine (rkids_any _ _).mono ?_; rintro e w' ⟨rfl, rfl⟩; rw [HK.out])
  rw [rounds_succ]; go_wp2_with (go_at_call 20; refine (rkids_any _ _).mono ?_; rintro e w' ⟨rfl, rfl⟩; rw [HK.out])
  exact bodyPost_ret (v := .agg #[.int .i64 op, .int .i64 v, .int .u64 n, .int .i64 x0, .int .i64 b, .int .i64 c]) (by simp [results, Try.results62, go_sem]) rfl ⟨rfl, ((Below.refl _ _).alloc (Nat.le_refl _) _).alloc (by simp) _⟩

set_option maxRecDepth 20000 in
set_option maxHeartbeats 1000000 in
theorem tl2 (op v n c : Int) (b' o : Nat) (len cap : Nat) (w : World) (hk : Tm.kidn op = 2) (hb : b' < w.heap.size) (i0 : Nat) (x0 : Int) (l0 : i0 < len) (q0 : w.cell? ⟨b', o + i0, none⟩ = some (.int .i64 x0)) (i1 : Nat) (x1 : Int) (l1 : i1 < len) (q1 : w.cell? ⟨b', o + i1, none⟩ = some (.int .i64 x1)) :
    Calls Try.prog 62 #[.agg #[.int .i64 op, .int .i64 v, .int .u64 n, .int .i64 (i0 : Nat), .int .i64 (i1 : Nat), .int .i64 c], .slice (some ⟨b', o, none⟩) len cap] w fun e w' => e = .returned (.agg #[.int .i64 op, .int .i64 v, .int .u64 n, .int .i64 x0, .int .i64 x1, .int .i64 c]) ∧ Below w.heap.size w w' := by
  have HK := Lib.hid hk
  clear hk
  have m1 : b' < w.heap.size + 1 := by omega
  have n1 : w.heap.size ≠ b' := by omega
  have l0' : (i0 : Int) < len := by omega
  have l1' : (i1 : Int) < len := by omega
  go_enter Try.func62, Try.ntmps62
  go_wp2_with (go_at_call 20; refine (rkids_any _ _).mono ?_; rintro e w' ⟨rfl, rfl⟩; rw [HK.out])
  refine wp_loop_rounds 3 ?_
  rw [rounds_succ]; go_wp2_with (go_at_call 20; refine (rkids_any _ _).mono ?_; rintro e w' ⟨rfl, rfl⟩; rw [HK.out])
  rw [rounds_succ]; go_wp2_with (go_at_call 20; refine (rkids_any _ _).mono ?_; rintro e w' ⟨rfl, rfl⟩; rw [HK.out])
  rw [rounds_succ]; go_wp2_with (go_at_call 20; refine (rkids_any _ _).mono ?_; rintro e w' ⟨rfl, rfl⟩; rw [HK.out])
  exact bodyPost_ret (v := .agg #[.int .i64 op, .int .i64 v, .int .u64 n, .int .i64 x0, .int .i64 x1, .int .i64 c]) (by simp [results, Try.results62, go_sem]) rfl ⟨rfl, ((Below.refl _ _).alloc (Nat.le_refl _) _).alloc (by simp) _⟩

set_option maxRecDepth 20000 in
set_option maxHeartbeats 1000000 in
theorem tl3 (op v n : Int) (b' o : Nat) (len cap : Nat) (w : World) (hk : Tm.kidn op = 3) (hb : b' < w.heap.size) (i0 : Nat) (x0 : Int) (l0 : i0 < len) (q0 : w.cell? ⟨b', o + i0, none⟩ = some (.int .i64 x0)) (i1 : Nat) (x1 : Int) (l1 : i1 < len) (q1 : w.cell? ⟨b', o + i1, none⟩ = some (.int .i64 x1)) (i2 : Nat) (x2 : Int) (l2 : i2 < len) (q2 : w.cell? ⟨b', o + i2, none⟩ = some (.int .i64 x2)) :
    Calls Try.prog 62 #[.agg #[.int .i64 op, .int .i64 v, .int .u64 n, .int .i64 (i0 : Nat), .int .i64 (i1 : Nat), .int .i64 (i2 : Nat)], .slice (some ⟨b', o, none⟩) len cap] w fun e w' => e = .returned (.agg #[.int .i64 op, .int .i64 v, .int .u64 n, .int .i64 x0, .int .i64 x1, .int .i64 x2]) ∧ Below w.heap.size w w' := by
  have HK := Lib.hid hk
  clear hk
  have m1 : b' < w.heap.size + 1 := by omega
  have n1 : w.heap.size ≠ b' := by omega
  have l0' : (i0 : Int) < len := by omega
  have l1' : (i1 : Int) < len := by omega
  have l2' : (i2 : Int) < len := by omega
  go_enter Try.func62, Try.ntmps62
  go_wp2_with (go_at_call 20; refine (rkids_any _ _).mono ?_; rintro e w' ⟨rfl, rfl⟩; rw [HK.out])
  refine wp_loop_rounds 4 ?_
  rw [rounds_succ]; go_wp2_with (go_at_call 20; refine (rkids_any _ _).mono ?_; rintro e w' ⟨rfl, rfl⟩; rw [HK.out])
  rw [rounds_succ]; go_wp2_with (go_at_call 20; refine (rkids_any _ _).mono ?_; rintro e w' ⟨rfl, rfl⟩; rw [HK.out])
  rw [rounds_succ]; go_wp2_with (go_at_call 20; refine (rkids_any _ _).mono ?_; rintro e w' ⟨rfl, rfl⟩; rw [HK.out])
  rw [rounds_succ]; go_wp2_with (go_at_call 20; refine (rkids_any _ _).mono ?_; rintro e w' ⟨rfl, rfl⟩; rw [HK.out])
  exact bodyPost_ret (v := .agg #[.int .i64 op, .int .i64 v, .int .u64 n, .int .i64 x0, .int .i64 x1, .int .i64 x2]) (by simp [results, Try.results62, go_sem]) rfl ⟨rfl, ((Below.refl _ _).alloc (Nat.le_refl _) _).alloc (by simp) _⟩

theorem moved_any (nd : Tm.Nd) (A : Option Addr) (len cap : Nat) (at' : Nat → Int) (w : World) (h : InR w A len at') (hk : Tm.kok nd len = true) :
    Calls Try.prog 46 #[ndv nd, .slice A len cap] w fun e w' => e = .returned (ndv (Tm.mvd nd at')) ∧ Below w.heap.size w w' := by
  obtain ⟨op, v, n, a, b, c⟩ := nd
  obtain ⟨k0, k1, k2⟩ := Tm.kok_in hk
  dsimp only at k0 k1 k2
  have h4 : Tm.kidn op = 0 ∨ Tm.kidn op = 1 ∨ Tm.kidn op = 2 ∨ Tm.kidn op = 3 := by have := Tm.kidn_le op; omega
  rcases h4 with e | e | e | e
  · simpa [Tm.mvd, e] using mv0 op v n a b c A len cap w e
  · obtain ⟨r0, t0⟩ := k0 (by omega)
    obtain ⟨i0, rfl⟩ := Int.eq_ofNat_of_zero_le r0
    obtain ⟨g, o, rfl, hb, hx⟩ := h (by omega)
    simpa [Tm.mvd, e] using mv1 op v n b c g o len cap w e hb i0 _ (by omega) (hx i0 (by omega))
  · obtain ⟨r0, t0⟩ := k0 (by omega)
    obtain ⟨i0, rfl⟩ := Int.eq_ofNat_of_zero_le r0
    obtain ⟨r1, t1⟩ := k1 (by omega)
    obtain ⟨i1, rfl⟩ := Int.eq_ofNat_of_zero_le r1
    obtain ⟨g, o, rfl, hb, hx⟩ := h (by omega)
    simpa [Tm.mvd, e] using mv2 op v n c g o len cap w e hb i0 _ (by omega) (hx i0 (by omega)) i1 _ (by omega) (hx i1 (by omega))
  · obtain ⟨r0, t0⟩ := k0 (by omega)
    obtain ⟨i0, rfl⟩ := Int.eq_ofNat_of_zero_le r0
    obtain ⟨r1, t1⟩ := k1 (by omega)
    obtain ⟨i1, rfl⟩ := Int.eq_ofNat_of_zero_le r1
    obtain ⟨r2, t2⟩ := k2 (by omega)
    obtain ⟨i2, rfl⟩ := Int.eq_ofNat_of_zero_le r2
    obtain ⟨g, o, rfl, hb, hx⟩ := h (by omega)
    simpa [Tm.mvd, e] using mv3 op v n g o len cap w e hb i0 _ (by omega) (hx i0 (by omega)) i1 _ (by omega) (hx i1 (by omega)) i2 _ (by omega) (hx i2 (by omega))
theorem told_any (nd : Tm.Nd) (A : Option Addr) (len cap : Nat) (at' : Nat → Int) (w : World) (h : InR w A len at') (hk : Tm.kok nd len = true) :
    Calls Try.prog 62 #[ndv nd, .slice A len cap] w fun e w' => e = .returned (ndv (Tm.mvd nd at')) ∧ Below w.heap.size w w' := by
  obtain ⟨op, v, n, a, b, c⟩ := nd
  obtain ⟨k0, k1, k2⟩ := Tm.kok_in hk
  dsimp only at k0 k1 k2
  have h4 : Tm.kidn op = 0 ∨ Tm.kidn op = 1 ∨ Tm.kidn op = 2 ∨ Tm.kidn op = 3 := by have := Tm.kidn_le op; omega
  rcases h4 with e | e | e | e
  · simpa [Tm.mvd, e] using tl0 op v n a b c A len cap w e
  · obtain ⟨r0, t0⟩ := k0 (by omega)
    obtain ⟨i0, rfl⟩ := Int.eq_ofNat_of_zero_le r0
    obtain ⟨g, o, rfl, hb, hx⟩ := h (by omega)
    simpa [Tm.mvd, e] using tl1 op v n b c g o len cap w e hb i0 _ (by omega) (hx i0 (by omega))
  · obtain ⟨r0, t0⟩ := k0 (by omega)
    obtain ⟨i0, rfl⟩ := Int.eq_ofNat_of_zero_le r0
    obtain ⟨r1, t1⟩ := k1 (by omega)
    obtain ⟨i1, rfl⟩ := Int.eq_ofNat_of_zero_le r1
    obtain ⟨g, o, rfl, hb, hx⟩ := h (by omega)
    simpa [Tm.mvd, e] using tl2 op v n c g o len cap w e hb i0 _ (by omega) (hx i0 (by omega)) i1 _ (by omega) (hx i1 (by omega))
  · obtain ⟨r0, t0⟩ := k0 (by omega)
    obtain ⟨i0, rfl⟩ := Int.eq_ofNat_of_zero_le r0
    obtain ⟨r1, t1⟩ := k1 (by omega)
    obtain ⟨i1, rfl⟩ := Int.eq_ofNat_of_zero_le r1
    obtain ⟨r2, t2⟩ := k2 (by omega)
    obtain ⟨i2, rfl⟩ := Int.eq_ofNat_of_zero_le r2
    obtain ⟨g, o, rfl, hb, hx⟩ := h (by omega)
    simpa [Tm.mvd, e] using tl3 op v n g o len cap w e hb i0 _ (by omega) (hx i0 (by omega)) i1 _ (by omega) (hx i1 (by omega)) i2 _ (by omega) (hx i2 (by omega))
end Go.Proofs.Ytdbcpnpcnkccaaa
namespace Go.Proofs.Ytdbcpnpcnkccaaa
set_option maxRecDepth 100000
open Go.RowKit Go.Maps

/-- The kids of a node are marked. -/
def Tm.mark (F : Nat → Bool) (nd : Tm.Nd) : Nat → Bool := fun i =>
  F i || (decide (1 ≤ Tm.kidn nd.op ∧ i = nd.a.toNat) || (decide (2 ≤ Tm.kidn nd.op ∧ i = nd.b.toNat) || decide (3 ≤ Tm.kidn nd.op ∧ i = nd.c.toNat)))
/-- Places n - 1 to 0 are gone through. -/
def Tm.hgo (X : List Tm.Nd) : Nat → (Nat → Bool) → (Nat → Bool)
  | 0, F => F
  | i + 1, F => Tm.hgo X i (if F i = true then Tm.mark F (X.getD i Tm.z) else F)
def Tm.hang (X : List Tm.Nd) (p : Nat) : Nat → Bool := Tm.hgo X (p + 1) (fun i => decide (i = p))
/-- A row of bools, and one of integers. -/
def brow (F : Nat → Bool) (m : Nat) : Array Value := ((List.range m).map fun i => Value.bool (F i)).toArray
def irow (F : Nat → Int) (m : Nat) : Array Value := ((List.range m).map fun i => Value.int .i64 (F i)).toArray
theorem brow_at {F : Nat → Bool} {m i : Nat} (h : i < m) : (brow F m)[i]? = some (.bool (F i)) := by simp [brow, h]
theorem irow_at {F : Nat → Int} {m i : Nat} (h : i < m) : (irow F m)[i]? = some (.int .i64 (F i)) := by simp [irow, h]
theorem brow_set {F G : Nat → Bool} {m i : Nat} (h : ∀ j, G j = if j = i then true else F j) : (brow F m).setIfInBounds i (.bool true) = brow G m := by
  apply Array.ext
  · simp [brow]
  · intro j h1 h2
    simp [brow, List.getElem_set]
    rw [h j]
    by_cases e : i = j
    · rw [decide_eq_true e, if_pos e.symm, Bool.true_or]
    · rw [decide_eq_false e, if_neg (fun h => e h.symm), Bool.false_or]
theorem irow_set {F G : Nat → Int} {m i : Nat} {v : Int} (h : ∀ j, G j = if j = i then v else F j) : (irow F m).setIfInBounds i (.int .i64 v) = irow G m := by
  apply Array.ext
  · simp [irow]
  · intro j h1 h2
    simp [irow, List.getElem_set]
    rw [h j]
    by_cases e : i = j
    · rw [if_pos e, if_pos e.symm]
    · rw [if_neg e, if_neg (fun h => e h.symm)]
theorem made_b (m : Nat) : madeCells #[Value.bool false] m = brow (fun _ => false) m := by
  apply Array.ext
  · simp [brow, madeCells]
  · intro j h1 h2
    simp [brow, madeCells, Nat.mod_one]
theorem made_i (m : Nat) : madeCells #[Value.int .i64 0] m = irow (fun _ => 0) m := by
  apply Array.ext
  · simp [irow, madeCells]
  · intro j h1 h2
    simp [irow, madeCells, Nat.mod_one]
theorem b_info : (Try.prog.info? 4).map (fun i => (i.zero, i.size, i.bytes)) = some (some (.bool false), 1, 1) := by kernel_rfl
theorem i_info : (Try.prog.info? 3).map (fun i => (i.zero, i.size, i.bytes)) = some (some (.int .i64 0), 1, 8) := by kernel_rfl

theorem Tm.mark0 {F : Nat → Bool} {nd : Tm.Nd} (hk : Tm.kidn nd.op = 0) : Tm.mark F nd = F := by funext i; simp [Tm.mark, hk]
theorem Tm.hgo_yes {X : List Tm.Nd} {i : Nat} {F : Nat → Bool} (h : F i = true) : Tm.hgo X (i + 1) F = Tm.hgo X i (Tm.mark F (X.getD i Tm.z)) := by rw [Tm.hgo, if_pos h]
theorem Tm.hgo_no {X : List Tm.Nd} {i : Nat} {F : Nat → Bool} (h : F i = false) : Tm.hgo X (i + 1) F = Tm.hgo X i F := by rw [Tm.hgo, if_neg (by rw [h]; simp)]
theorem brow_mark1 {F : Nat → Bool} {m : Nat} {nd : Tm.Nd} (hk : Tm.kidn nd.op = 1) : (brow F m).setIfInBounds nd.a.toNat (.bool true) = brow (Tm.mark F nd) m := brow_set fun j => by
  simp [Tm.mark, hk]
  by_cases e : j = nd.a.toNat <;> simp [e]
theorem brow_mark2 {F : Nat → Bool} {m : Nat} {nd : Tm.Nd} (hk : Tm.kidn nd.op = 2) : ((brow F m).setIfInBounds nd.a.toNat (.bool true)).setIfInBounds nd.b.toNat (.bool true) = brow (Tm.mark F nd) m := by
  rw [brow_set (G := fun j => if j = nd.a.toNat then true else F j) (fun j => rfl)]
  exact brow_set fun j => by
    simp [Tm.mark, hk]
    by_cases e : j = nd.a.toNat <;> by_cases e' : j = nd.b.toNat <;> simp [e, e']
theorem brow_mark3 {F : Nat → Bool} {m : Nat} {nd : Tm.Nd} (hk : Tm.kidn nd.op = 3) : (((brow F m).setIfInBounds nd.a.toNat (.bool true)).setIfInBounds nd.b.toNat (.bool true)).setIfInBounds nd.c.toNat (.bool true) = brow (Tm.mark F nd) m := by
  rw [brow_set (G := fun j => if j = nd.a.toNat then true else F j) (fun j => rfl), brow_set (G := fun j => if j = nd.b.toNat then true else if j = nd.a.toNat then true else F j) (fun j => rfl)]
  exact brow_set fun j => by
    simp [Tm.mark, hk]
    by_cases e : j = nd.a.toNat <;> by_cases e' : j = nd.b.toNat <;> by_cases e'' : j = nd.c.toNat <;> simp [e, e', e'']

/-- The row of marks, and a node's box behind it. -/
structure Nb (w : World) (b : Nat) (cs : Array Value) (hx : Nat) (nd : Tm.Nd) (B : World) : Prop where
  blk : Blk w b 4 cs
  bx : Bx w hx nd
  bel : Below B.heap.size B w
  ne : hx ≠ b
  le : B.heap.size ≤ b
theorem Nb.set {w : World} {b : Nat} {cs : Array Value} {hx : Nat} {nd : Tm.Nd} {B : World} (h : Nb w b cs hx nd B) (i : Nat) : Nb (w.setCell ⟨b, i, none⟩ (.bool true)) b (cs.setIfInBounds i (.bool true)) hx nd B :=
  ⟨h.blk.set _, h.bx.keep (Below.heap_setCell _ _ _ _ h.ne), h.bel.setCell h.le _, h.ne, h.le⟩
theorem Nb.new {wr B : World} {b : Nat} {cs : Array Value} {nd : Tm.Nd} (h : Blk wr b 4 cs) (hb : Below B.heap.size B wr) (le : B.heap.size ≤ b) : Nb (wr.alloc (.cells #[.int .i64 nd.op, .int .i64 nd.w, .int .u64 nd.n, .int .i64 nd.a, .int .i64 nd.b, .int .i64 nd.c] 36)) b cs wr.heap.size nd B :=
  ⟨((Below.box wr _).block b h.lt).trans h, Bx.new wr nd, hb.alloc hb.size _, by have := h.lt; omega, le⟩
theorem bsz (F : Nat → Bool) (m : Nat) : (brow F m).size = m := by simp [brow]
/-- There is a cell. -/
theorem Nb.cell {w : World} {b : Nat} {cs : Array Value} {hx : Nat} {nd : Tm.Nd} {B : World} (h : Nb w b cs hx nd B) {i : Nat} {m : Nat} (hm : cs.size = m) (hi : i < m) : ∃ u, w.cell? ⟨b, i, none⟩ = some u := by
  rw [h.blk.c]
  exact ⟨_, Array.getElem?_eq_getElem (by omega)⟩

/-- hangsOn's end. -/
def HoP (X : List Tm.Nd) (p : Nat) (w : World) (e : Ending) (w' : World) : Prop :=
  ∃ b, e = .returned (.slice (some ⟨b, 0, none⟩) (p + 1) (p + 1)) ∧ w.heap.size ≤ b ∧ Blk w' b 4 (brow (Tm.hang X p) (p + 1)) ∧ Below w.heap.size w w'

set_option maxRecDepth 20000 in
set_option maxHeartbeats 4000000 in
theorem hangs_any (g bm : Nat) (A : Option Addr) (cap : Nat) (X : List Tm.Nd) (q : Nat) (p : Nat) (w : World) (h : Ar w g bm A cap X q) (hp : p < X.length) (hs : X.length ≤ 1000000) :
    Calls Try.prog 49 #[.pointer (some ⟨g, 0, none⟩), .int .i64 p] w (HoP X p w) := by
  have hmk : ∀ W : World, (Instr.makeSlice 97 (.int .i64 ((p + 1 : Nat) : Int)) (.int .i64 ((p + 1 : Nat) : Int))).run Try.prog W = .ok (.slice (some ⟨W.heap.size, 0, none⟩) (p + 1) (p + 1)) (W.alloc (.cells (brow (fun _ => false) (p + 1)) 4)) := fun W => by
    rw [← made_b]
    exact run_make_row' 97 4 (.bool false) 1 Try.underlying97 b_info rfl .i64 .i64 (p + 1) (by omega) (by omega) W
  have ep : ((p + 1 : Nat) : Int) = (p : Int) + 1 := by omega
  rw [ep] at hmk
  have hb0 : Blk (w.alloc (.cells (brow (fun _ => false) (p + 1)) 4)) w.heap.size 4 (brow (fun _ => false) (p + 1)) := Blk.new _ _ _
  have c0 := (hb0.c p).trans (brow_at (Nat.lt_succ_self p))
  have f0 := hb0.fr p
  have HA := Lib.hid h
  have HP := Lib.hid hp
  have HS := Lib.hid hs
  have hpl : (p : Int) < 1000000 := by omega
  clear hb0 h hp hs ep
  go_enter Try.func49, Try.ntmps49
  go_wp2
  clear hmk c0 f0
  go_loopw [6] (fun t wr => ∃ (k : Nat) (zz : Int) (F : Nat → Bool), k ≤ p + 1 ∧ t = .int .i64 zz ∧ zz = (k : Int) - 1 ∧ Blk wr w.heap.size 4 (brow F (p + 1)) ∧ Tm.hgo X k F = Tm.hang X p ∧ Below w.heap.size w wr) (fun t _ => (intOf t + 1).toNat)
  case atStart =>
    refine ⟨p + 1, _, fun i => decide (i = p), Nat.le_refl _, rfl, by omega, ?_, rfl, (Below.refl _ _).alloc (Nat.le_refl _) _⟩
    rw [brow_set (G := fun i => decide (i = p)) (fun j => by by_cases e : j = p <;> simp [e])]
    exact Blk.new _ _ _
  case round =>
    obtain ⟨k, zz, F, hk, rfl, hz, hbl, hgo, hbw⟩ := hrel
    rcases k with _ | k
    · obtain rfl : zz = -1 := by omega
      have HBL := Lib.hid hbl
      have HG := Lib.hid hgo
      have HBW := Lib.hid hbw
      clear hbl hgo hbw hz
      go_wp2
      go_ret
      exact ⟨w.heap.size, rfl, Nat.le_refl _, by rw [← HG.out]; exact HBL.out, HBW.out⟩
    · obtain rfl : zz = (k : Int) := by omega
      have d0 := (hbl.c k).trans (brow_at (by omega))
      have HBL := Lib.hid hbl
      have HG := Lib.hid hgo
      have HLE := Lib.hid (Nat.le_refl w.heap.size)
      have hk1 : (k : Int) < (p : Int) + 1 := by omega
      have hk2 : k < p + 1 := by omega
      clear hz hgo
      by_cases hF : F k = true
      · have HF := Lib.hid hF
        rw [hF] at d0
        have hA := HA.out.below hbw
        have e0 : wr.cell? ⟨g, 0, none⟩ = some (.slice A X.length cap) := hA.blk.c 0
        obtain ⟨bb, oo, rfl, hbb, hx⟩ := hA.nd.mem (by have := HP.out; omega)
        obtain ⟨x0, x1, x2, x3, x4, x5⟩ := hx k (by have := HP.out; omega)
        have hkx : (k : Int) < X.length := by have := HP.out; omega
        have hok := Tm.flt_zero (hA.ok k (by have := HP.out; omega))
        obtain ⟨nd, hnd⟩ : ∃ nd, X.getD k Tm.z = nd := ⟨_, rfl⟩
        rw [hnd] at x0 x1 x2 x3 x4 x5 hok
        have HND := Lib.hid hnd
        have hK := Tm.kok_in hok.2.2.1
        clear hF hA hx hok hnd hbl
        obtain ⟨op, v, n, a, b, c⟩ := nd
        dsimp only at x0 x1 x2 x3 x4 x5 hK
        generalize X.length = ln at e0 hkx
        have h4 : Tm.kidn op = 0 ∨ Tm.kidn op = 1 ∨ Tm.kidn op = 2 ∨ Tm.kidn op = 3 := by have := Tm.kidn_le op; omega
        rcases h4 with hk | hk | hk | hk
        · have HK := Lib.hid hk
          have HN0 := Nb.new (nd := (⟨op, v, n, a, b, c⟩ : Tm.Nd)) HBL.out hbw HLE.out
          clear hK hk hbw
          go_wp2_with (go_at_call 73; refine (kids_any _ _).mono ?_; rintro e w' ⟨rfl, rfl⟩; rw [HK.out])
          refine wp_loop_rounds 1 ?_
          revert HN0
          generalize (wr.alloc (.cells #[.int .i64 op, .int .i64 v, .int .u64 n, .int .i64 a, .int .i64 b, .int .i64 c] 36)) = U0
          intro HN0
          have HX0 := Lib.hid HN0
          clear HN0
          rw [rounds_succ]; go_wp2
          go_roundw
          case rel =>
            refine ⟨k, _, F, by omega, rfl, by omega, HX0.out.blk, ?_, HX0.out.bel⟩
            rw [← HG.out, Tm.hgo_yes HF.out, HND.out, Tm.mark0 HK.out]
          case measure => simp [intOf]; try omega
        · obtain ⟨r0, t0⟩ := hK.1 (by omega)
          obtain ⟨i0, rfl⟩ := Int.eq_ofNat_of_zero_le r0
          have j0 : (i0 : Int) < (p : Int) + 1 := by omega
          have m0 : i0 < p + 1 := by omega
          have HK := Lib.hid hk
          have HN0 := Nb.new (nd := (⟨op, v, n, ((i0 : Nat) : Int), b, c⟩ : Tm.Nd)) HBL.out hbw HLE.out
          clear hK hk hbw
          go_wp2_with (go_at_call 73; refine (kids_any _ _).mono ?_; rintro e w' ⟨rfl, rfl⟩; rw [HK.out])
          refine wp_loop_rounds 2 ?_
          revert HN0
          generalize (wr.alloc (.cells #[.int .i64 op, .int .i64 v, .int .u64 n, .int .i64 ((i0 : Nat) : Int), .int .i64 b, .int .i64 c] 36)) = U0
          intro HN0
          obtain ⟨b0, b1, b2, b3, b4, b5⟩ := HN0.bx
          dsimp only at b0 b1 b2 b3 b4 b5
          obtain ⟨uu0, d0⟩ := HN0.cell (m := p + 1) (by simp [bsz]) m0
          have f0 := HN0.blk.fr i0
          have HX0 := Lib.hid HN0
          clear HN0
          rw [rounds_succ]; go_wp2
          clear b0 b1 b2 b3 b4 b5 d0 f0
          have HN1 := HX0.out.set i0
          revert HN1
          generalize U0.setCell ⟨w.heap.size, i0, none⟩ (.bool true) = U1
          intro HN1
          have HX1 := Lib.hid HN1
          clear HN1
          rw [rounds_succ]; go_wp2
          go_roundw
          case rel =>
            refine ⟨k, _, Tm.mark F (⟨op, v, n, ((i0 : Nat) : Int), b, c⟩ : Tm.Nd), by omega, rfl, by omega, ?_, ?_, HX1.out.bel⟩
            · have := HX1.out.blk
              rw [← brow_mark1 (nd := (⟨op, v, n, ((i0 : Nat) : Int), b, c⟩ : Tm.Nd)) HK.out]
              simpa only [Int.toNat_natCast] using this
            · rw [← HG.out, Tm.hgo_yes HF.out, HND.out]
          case measure => simp [intOf]; try omega
        · obtain ⟨r0, t0⟩ := hK.1 (by omega)
          obtain ⟨i0, rfl⟩ := Int.eq_ofNat_of_zero_le r0
          have j0 : (i0 : Int) < (p : Int) + 1 := by omega
          have m0 : i0 < p + 1 := by omega
          obtain ⟨r1, t1⟩ := hK.2.1 (by omega)
          obtain ⟨i1, rfl⟩ := Int.eq_ofNat_of_zero_le r1
          have j1 : (i1 : Int) < (p : Int) + 1 := by omega
          have m1 : i1 < p + 1 := by omega
          have HK := Lib.hid hk
          have HN0 := Nb.new (nd := (⟨op, v, n, ((i0 : Nat) : Int), ((i1 : Nat) : Int), c⟩ : Tm.Nd)) HBL.out hbw HLE.out
          clear hK hk hbw
          go_wp2_with (go_at_call 73; refine (kids_any _ _).mono ?_; rintro e w' ⟨rfl, rfl⟩; rw [HK.out])
          refine wp_loop_rounds 3 ?_
          revert HN0
          generalize (wr.alloc (.cells #[.int .i64 op, .int .i64 v, .int .u64 n, .int .i64 ((i0 : Nat) : Int), .int .i64 ((i1 : Nat) : Int), .int .i64 c] 36)) = U0
          intro HN0
          obtain ⟨b0, b1, b2, b3, b4, b5⟩ := HN0.bx
          dsimp only at b0 b1 b2 b3 b4 b5
          obtain ⟨uu0, d0⟩ := HN0.cell (m := p + 1) (by simp [bsz]) m0
          have f0 := HN0.blk.fr i0
          have HX0 := Lib.hid HN0
          clear HN0
          rw [rounds_succ]; go_wp2
          clear b0 b1 b2 b3 b4 b5 d0 f0
          have HN1 := HX0.out.set i0
          revert HN1
          generalize U0.setCell ⟨w.heap.size, i0, none⟩ (.bool true) = U1
          intro HN1
          obtain ⟨b0, b1, b2, b3, b4, b5⟩ := HN1.bx
          dsimp only at b0 b1 b2 b3 b4 b5
          obtain ⟨uu1, d0⟩ := HN1.cell (m := p + 1) (by simp [bsz]) m1
          have f0 := HN1.blk.fr i1
          have HX1 := Lib.hid HN1
          clear HN1
          rw [rounds_succ]; go_wp2
          clear b0 b1 b2 b3 b4 b5 d0 f0
          have HN2 := HX1.out.set i1
          revert HN2
          generalize U1.setCell ⟨w.heap.size, i1, none⟩ (.bool true) = U2
          intro HN2
          have HX2 := Lib.hid HN2
          clear HN2
          rw [rounds_succ]; go_wp2
          go_roundw
          case rel =>
            refine ⟨k, _, Tm.mark F (⟨op, v, n, ((i0 : Nat) : Int), ((i1 : Nat) : Int), c⟩ : Tm.Nd), by omega, rfl, by omega, ?_, ?_, HX2.out.bel⟩
            · have := HX2.out.blk
              rw [← brow_mark2 (nd := (⟨op, v, n, ((i0 : Nat) : Int), ((i1 : Nat) : Int), c⟩ : Tm.Nd)) HK.out]
              simpa only [Int.toNat_natCast] using this
            · rw [← HG.out, Tm.hgo_yes HF.out, HND.out]
          case measure => simp [intOf]; try omega
        · obtain ⟨r0, t0⟩ := hK.1 (by omega)
          obtain ⟨i0, rfl⟩ := Int.eq_ofNat_of_zero_le r0
          have j0 : (i0 : Int) < (p : Int) + 1 := by omega
          have m0 : i0 < p + 1 := by omega
          obtain ⟨r1, t1⟩ := hK.2.1 (by omega)
          obtain ⟨i1, rfl⟩ := Int.eq_ofNat_of_zero_le r1
          have j1 : (i1 : Int) < (p : Int) + 1 := by omega
          have m1 : i1 < p + 1 := by omega
          obtain ⟨r2, t2⟩ := hK.2.2 (by omega)
          obtain ⟨i2, rfl⟩ := Int.eq_ofNat_of_zero_le r2
          have j2 : (i2 : Int) < (p : Int) + 1 := by omega
          have m2 : i2 < p + 1 := by omega
          have HK := Lib.hid hk
          have HN0 := Nb.new (nd := (⟨op, v, n, ((i0 : Nat) : Int), ((i1 : Nat) : Int), ((i2 : Nat) : Int)⟩ : Tm.Nd)) HBL.out hbw HLE.out
          clear hK hk hbw
          go_wp2_with (go_at_call 73; refine (kids_any _ _).mono ?_; rintro e w' ⟨rfl, rfl⟩; rw [HK.out])
          refine wp_loop_rounds 4 ?_
          revert HN0
          generalize (wr.alloc (.cells #[.int .i64 op, .int .i64 v, .int .u64 n, .int .i64 ((i0 : Nat) : Int), .int .i64 ((i1 : Nat) : Int), .int .i64 ((i2 : Nat) : Int)] 36)) = U0
          intro HN0
          obtain ⟨b0, b1, b2, b3, b4, b5⟩ := HN0.bx
          dsimp only at b0 b1 b2 b3 b4 b5
          obtain ⟨uu0, d0⟩ := HN0.cell (m := p + 1) (by simp [bsz]) m0
          have f0 := HN0.blk.fr i0
          have HX0 := Lib.hid HN0
          clear HN0
          rw [rounds_succ]; go_wp2
          clear b0 b1 b2 b3 b4 b5 d0 f0
          have HN1 := HX0.out.set i0
          revert HN1
          generalize U0.setCell ⟨w.heap.size, i0, none⟩ (.bool true) = U1
          intro HN1
          obtain ⟨b0, b1, b2, b3, b4, b5⟩ := HN1.bx
          dsimp only at b0 b1 b2 b3 b4 b5
          obtain ⟨uu1, d0⟩ := HN1.cell (m := p + 1) (by simp [bsz]) m1
          have f0 := HN1.blk.fr i1
          have HX1 := Lib.hid HN1
          clear HN1
          rw [rounds_succ]; go_wp2
          clear b0 b1 b2 b3 b4 b5 d0 f0
          have HN2 := HX1.out.set i1
          revert HN2
          generalize U1.setCell ⟨w.heap.size, i1, none⟩ (.bool true) = U2
          intro HN2
          obtain ⟨b0, b1, b2, b3, b4, b5⟩ := HN2.bx
          dsimp only at b0 b1 b2 b3 b4 b5
          obtain ⟨uu2, d0⟩ := HN2.cell (m := p + 1) (by simp [bsz]) m2
          have f0 := HN2.blk.fr i2
          have HX2 := Lib.hid HN2
          clear HN2
          rw [rounds_succ]; go_wp2
          clear b0 b1 b2 b3 b4 b5 d0 f0
          have HN3 := HX2.out.set i2
          revert HN3
          generalize U2.setCell ⟨w.heap.size, i2, none⟩ (.bool true) = U3
          intro HN3
          have HX3 := Lib.hid HN3
          clear HN3
          rw [rounds_succ]; go_wp2
          go_roundw
          case rel =>
            refine ⟨k, _, Tm.mark F (⟨op, v, n, ((i0 : Nat) : Int), ((i1 : Nat) : Int), ((i2 : Nat) : Int)⟩ : Tm.Nd), by omega, rfl, by omega, ?_, ?_, HX3.out.bel⟩
            · have := HX3.out.blk
              rw [← brow_mark3 (nd := (⟨op, v, n, ((i0 : Nat) : Int), ((i1 : Nat) : Int), ((i2 : Nat) : Int)⟩ : Tm.Nd)) HK.out]
              simpa only [Int.toNat_natCast] using this
            · rw [← HG.out, Tm.hgo_yes HF.out, HND.out]
          case measure => simp [intOf]; try omega
      · have hF' : F k = false := by simpa using hF
        have HF := Lib.hid hF'
        have HBW := Lib.hid hbw
        rw [hF'] at d0
        clear hF hF' hbl hbw
        go_wp2
        go_roundw
        case rel => exact ⟨k, _, F, by omega, rfl, by omega, HBL.out, by rw [← HG.out, Tm.hgo_no HF.out], HBW.out⟩
        case measure => simp [intOf]; try omega
end Go.Proofs.Ytdbcpnpcnkccaaa
namespace Go.Proofs.Ytdbcpnpcnkccaaa
set_option maxRecDepth 100000
open Go.RowKit Go.Maps

/-- The term so far: where each node went, and the nodes. -/
def Tm.tst (X : List Tm.Nd) (F : Nat → Bool) : Nat → (Nat → Int) × List Tm.Nd
  | 0 => (fun _ => 0, [])
  | k + 1 => if F k = true then
      ((fun j => if j = k then ((Tm.tst X F k).2.length : Int) else (Tm.tst X F k).1 j),
       (Tm.tst X F k).2 ++ [Tm.mvd (X.getD k Tm.z) (fun j => if j = k then ((Tm.tst X F k).2.length : Int) else (Tm.tst X F k).1 j)])
    else Tm.tst X F k
def Tm.term (X : List Tm.Nd) (p : Nat) : List Tm.Nd := (Tm.tst X (Tm.hang X p) (p + 1)).2
theorem Tm.tst_yes {X : List Tm.Nd} {F : Nat → Bool} {k : Nat} (h : F k = true) : Tm.tst X F (k + 1) = ((fun j => if j = k then ((Tm.tst X F k).2.length : Int) else (Tm.tst X F k).1 j),
       (Tm.tst X F k).2 ++ [Tm.mvd (X.getD k Tm.z) (fun j => if j = k then ((Tm.tst X F k).2.length : Int) else (Tm.tst X F k).1 j)]) := by rw [Tm.tst, if_pos h]
theorem Tm.tst_no {X : List Tm.Nd} {F : Nat → Bool} {k : Nat} (h : F k = false) : Tm.tst X F (k + 1) = Tm.tst X F k := by rw [Tm.tst, if_neg (by rw [h]; simp)]
theorem Tm.tst_len (X : List Tm.Nd) (F : Nat → Bool) (k : Nat) : (Tm.tst X F k).2.length ≤ k := by
  induction k with
  | zero => simp [Tm.tst]
  | succ k ih =>
    by_cases h : F k = true
    · rw [Tm.tst_yes h]; simp; exact ih
    · rw [Tm.tst_no (by simpa using h)]; omega
theorem Tm.inn_mono {a : Int} {m n : Nat} (h : m ≤ n) (k : Tm.inn a m = true) : Tm.inn a n = true := by
  rw [Tm.inn_iff] at k ⊢; omega
theorem Tm.kok_mono {nd : Tm.Nd} {m n : Nat} (h : m ≤ n) (k : Tm.kok nd m = true) : Tm.kok nd n = true := by
  unfold Tm.kok at k ⊢
  simp only [Bool.and_eq_true] at k ⊢
  obtain ⟨k0, k1, k2⟩ := k
  refine ⟨?_, ?_, ?_⟩
  · split
    · rename_i e; rw [if_pos e] at k0; exact Tm.inn_mono h k0
    · rename_i e; rw [if_neg e] at k0; exact k0
  · split
    · rename_i e; rw [if_pos e] at k1; exact Tm.inn_mono h k1
    · rename_i e; rw [if_neg e] at k1; exact k1
  · split
    · rename_i e; rw [if_pos e] at k2; exact Tm.inn_mono h k2
    · rename_i e; rw [if_neg e] at k2; exact k2
theorem own_set {w : World} {base : Nat} {e : TypeId} {size : Nat} {v : Value} {n : Nat} {xs : List Value} (h : w.ownsRow base e size v n xs) {p : Addr} (hp : p.block < base) (u : Value) : (w.setCell p u).ownsRow base e size v n xs := by
  rcases h with ⟨hl, ⟨e', h0⟩ | ⟨g', cap', cur, e', hb, hc, h1, h2, h3, h4⟩⟩
  · exact ⟨hl, .inl ⟨e', h0⟩⟩
  · exact ⟨hl, .inr ⟨g', cap', cur, e', hb, (Below.heap_setCell _ _ _ _ (by omega)).trans hc, h1, h2, h3, h4⟩⟩
theorem own_below {w w' : World} {base : Nat} {e : TypeId} {size : Nat} {v : Value} {n : Nat} {xs : List Value} (h : w.ownsRow base e size v n xs) (hb : Below w.heap.size w w') : w'.ownsRow base e size v n xs := by
  rcases h with ⟨hl, ⟨e', h0⟩ | ⟨g', cap', cur, e', hb', hc, h1, h2, h3, h4⟩⟩
  · exact ⟨hl, .inl ⟨e', h0⟩⟩
  · exact ⟨hl, .inr ⟨g', cap', cur, e', hb', (hb.block g' (Array.getElem?_eq_some_iff.1 hc).1).trans hc, h1, h2, h3, h4⟩⟩
theorem own_base {w : World} {base base' : Nat} {e : TypeId} {size : Nat} {v : Value} {n : Nat} {xs : List Value} (h : w.ownsRow base e size v n xs) (hb : base' ≤ base) : w.ownsRow base' e size v n xs := by
  rcases h with ⟨hl, ⟨e', h0⟩ | ⟨g', cap', cur, e', hb', hc, h1, h2, h3, h4⟩⟩
  · exact ⟨hl, .inl ⟨e', h0⟩⟩
  · exact ⟨hl, .inr ⟨g', cap', cur, e', Nat.le_trans hb hb', hc, h1, h2, h3, h4⟩⟩
theorem own_ge {w : World} {base : Nat} {e : TypeId} {size : Nat} {A : Option Addr} {n cap : Nat} {xs : List Value} (h : w.ownsRow base e size (.slice A n cap) n xs) : ∀ k, (Value.slice A n cap).ownBlock = some k → base ≤ k := fun k hk => by
  rcases h.2 with ⟨e', _⟩ | ⟨g', cap', cur, e', hb', _⟩
  · injection e' with e1 _ _
    subst e1
    simp [Value.ownBlock] at hk
  · injection e' with e1 _ _
    subst e1
    simp [Value.ownBlock] at hk
    omega

/-- A list of nodes of the call's own. -/
def TeP (Y : List Tm.Nd) (w : World) (e : Ending) (w' : World) : Prop :=
  ∃ A' cap', e = .returned (.slice A' Y.length cap') ∧ w'.ownsRow w.heap.size 36 6 (.slice A' Y.length cap') Y.length (Y.flatMap cells6) ∧ Below w.heap.size w w'

set_option maxRecDepth 20000 in
theorem term_out (g bm : Nat) (A : Option Addr) (cap : Nat) (X : List Tm.Nd) (q : Nat) (p : Int) (w : World) (h : Ar w g bm A cap X q) (hp : Tm.inn p X.length = false) :
    Calls Try.prog 19 #[.pointer (some ⟨g, 0, none⟩), .int .i64 p] w fun e w' => e = .returned (.slice none 0 0) ∧ w = w' := by
  have HH := Lib.hid (has_any h p)
  rw [hp] at HH
  clear h hp
  go_enter Try.func19, Try.ntmps19
  go_wp2_with (go_at_call 48; refine HH.out.mono ?_; rintro e w' ⟨rfl, rfl⟩)
  go_ret
  exact ⟨rfl, rfl⟩

/-- The loop's relation. -/
structure TmR (w wr : World) (ba bh : Nat) (X : List Tm.Nd) (p k : Nat) (A' : Option Addr) (cap' : Nat) : Prop where
  row : wr.ownsRow (bh + 1) 36 6 (.slice A' (Tm.tst X (Tm.hang X p) k).2.length cap') (Tm.tst X (Tm.hang X p) k).2.length ((Tm.tst X (Tm.hang X p) k).2.flatMap cells6)
  at' : Blk wr ba 3 (irow (Tm.tst X (Tm.hang X p) k).1 (p + 1))
  fl : Blk wr bh 4 (brow (Tm.hang X p) (p + 1))
  bel : Below w.heap.size w wr
theorem TmR.no {w wr : World} {ba bh : Nat} {X : List Tm.Nd} {p k : Nat} {A' : Option Addr} {cap' : Nat} (h : TmR w wr ba bh X p k A' cap') (hk : Tm.hang X p k = false) : TmR w wr ba bh X p (k + 1) A' cap' := by
  refine ⟨?_, ?_, h.fl, h.bel⟩
  · rw [Tm.tst_no hk]; exact h.row
  · rw [Tm.tst_no hk]; exact h.at'

/-- Behind the store of a node's place. -/
structure TmS (w U : World) (ba bh : Nat) (X : List Tm.Nd) (p k : Nat) (A' : Option Addr) (cap' : Nat) : Prop where
  row : U.ownsRow (bh + 1) 36 6 (.slice A' (Tm.tst X (Tm.hang X p) k).2.length cap') (Tm.tst X (Tm.hang X p) k).2.length ((Tm.tst X (Tm.hang X p) k).2.flatMap cells6)
  at' : Blk U ba 3 (irow (Tm.tst X (Tm.hang X p) (k + 1)).1 (p + 1))
  fl : Blk U bh 4 (brow (Tm.hang X p) (p + 1))
  bel : Below w.heap.size w U
  lt : ba < bh
  nx : (Tm.tst X (Tm.hang X p) (k + 1)).2 = (Tm.tst X (Tm.hang X p) k).2 ++ [Tm.mvd (X.getD k Tm.z) (Tm.tst X (Tm.hang X p) (k + 1)).1]
theorem TmS.inr {w U : World} {ba bh : Nat} {X : List Tm.Nd} {p k : Nat} {A' : Option Addr} {cap' : Nat} (h : TmS w U ba bh X p k A' cap') : InR U (some ⟨ba, 0, none⟩) (p + 1) (Tm.tst X (Tm.hang X p) (k + 1)).1 := fun _ =>
  ⟨ba, 0, rfl, h.at'.lt, fun i hi => by rw [Nat.zero_add]; exact (h.at'.c i).trans (irow_at hi)⟩
theorem TmS.below {w U V : World} {ba bh : Nat} {X : List Tm.Nd} {p k : Nat} {A' : Option Addr} {cap' : Nat} (h : TmS w U ba bh X p k A' cap') (hb : Below U.heap.size U V) : TmS w V ba bh X p k A' cap' :=
  ⟨own_below h.row hb, (hb.block ba h.at'.lt).trans h.at', (hb.block bh h.fl.lt).trans h.fl, h.bel.trans (hb.mono h.bel.size), h.lt, h.nx⟩
theorem TmR.store {w wr : World} {bh : Nat} {X : List Tm.Nd} {p k : Nat} {A' : Option Addr} {cap' : Nat} (h : TmR w wr w.heap.size bh X p k A' cap') (hk : Tm.hang X p k = true) (hl : w.heap.size < bh) :
    TmS w (wr.setCell ⟨w.heap.size, k, none⟩ (.int .i64 ((Tm.tst X (Tm.hang X p) k).2.length : Int))) w.heap.size bh X p k A' cap' := by
  refine ⟨own_set h.row (by show w.heap.size < bh + 1; omega) _, ?_, (Below.heap_setCell _ _ _ _ (Nat.ne_of_gt hl)).trans h.fl, h.bel.setCell (Nat.le_refl _) _, hl, ?_⟩
  · have := h.at'.set (i := k) (.int .i64 ((Tm.tst X (Tm.hang X p) k).2.length : Int))
    rw [irow_set (G := (Tm.tst X (Tm.hang X p) (k + 1)).1) (fun j => by rw [Tm.tst_yes hk])] at this
    exact this
  · rw [Tm.tst_yes hk]
theorem TmS.app {w U V2 : World} {bh : Nat} {X : List Tm.Nd} {p k : Nat} {A' A2 : Option Addr} {cap' cap2 : Nat} {o : Obj} {md : Tm.Nd} (h : TmS w U w.heap.size bh X p k A' cap') (hm : (Tm.tst X (Tm.hang X p) (k + 1)).2 = (Tm.tst X (Tm.hang X p) k).2 ++ [md])
    (hrow : V2.ownsRow (bh + 1) 36 6 (.slice A2 ((Tm.tst X (Tm.hang X p) k).2.length + 1) cap2) ((Tm.tst X (Tm.hang X p) k).2.length + 1) (((Tm.tst X (Tm.hang X p) k).2 ++ [md]).flatMap cells6))
    (hgrow : (U.alloc o).grownBy V2 ((Value.slice A' (Tm.tst X (Tm.hang X p) k).2.length cap').ownBlock)) : TmR w V2 w.heap.size bh X p (k + 1) A2 cap2 := by
  have hge := own_ge h.row
  have hlt := h.lt
  have hB : Below (bh + 1) U V2 := by
    have h1 : Below (bh + 1) U (U.alloc o) := (Below.refl _ _).alloc (by have := h.fl.lt; omega) _
    exact h1.trans ((Below.refl _ _).grown hgrow (by have := h.fl.lt; simp; omega) hge)
  refine ⟨?_, (hB.block _ (by omega)).trans h.at', (hB.block _ (by omega)).trans h.fl, h.bel.trans (hB.mono (by omega))⟩
  rw [hm, List.length_append, List.length_singleton]
  exact hrow

set_option maxRecDepth 20000 in
set_option maxHeartbeats 4000000 in
theorem term_in (g bm : Nat) (A : Option Addr) (cap : Nat) (X : List Tm.Nd) (q : Nat) (p : Nat) (w : World) (h : Ar w g bm A cap X q) (hp : p < X.length) (hs : X.length ≤ 1000000) :
    Calls Try.prog 19 #[.pointer (some ⟨g, 0, none⟩), .int .i64 p] w (TeP (Tm.term X p) w) := by
  have hmk : ∀ W : World, (Instr.makeSlice 93 (.int .i64 ((p + 1 : Nat) : Int)) (.int .i64 ((p + 1 : Nat) : Int))).run Try.prog W = .ok (.slice (some ⟨W.heap.size, 0, none⟩) (p + 1) (p + 1)) (W.alloc (.cells (irow (fun _ => 0) (p + 1)) 3)) := fun W => by
    rw [← made_i]
    exact run_make_row' 93 3 (.int .i64 0) 8 Try.underlying93 i_info rfl .i64 .i64 (p + 1) (by omega) (by omega) W
  have ep : ((p + 1 : Nat) : Int) = (p : Int) + 1 := by omega
  rw [ep] at hmk
  have HH := Lib.hid (has_any h p)
  rw [Tm.inn_iff.2 (show 0 ≤ (p : Int) ∧ (p : Int) < X.length by omega)] at HH
  have hb0 : Blk (w.alloc (.cells (irow (fun _ => 0) (p + 1)) 3)) w.heap.size 3 (irow (fun _ => 0) (p + 1)) := Blk.new _ _ _
  have hB1 : Below w.heap.size w (w.alloc (.cells (irow (fun _ => 0) (p + 1)) 3)) := Below.box _ _
  have HHo := Lib.hid (hangs_any g bm A cap X q p _ (h.below hB1) hp hs)
  have HB0 := Lib.hid hb0
  have HB1 := Lib.hid hB1
  have HA := Lib.hid h
  have HP := Lib.hid hp
  have HS := Lib.hid hs
  have hpl : (p : Int) < 1000000 := by omega
  clear hb0 h hp hs ep hB1
  go_enter Try.func19, Try.ntmps19
  go_wp2_with (go_at_call 48; refine HH.out.mono ?_; rintro e w' ⟨rfl, rfl⟩)
  refine HHo.out.mono ?_
  rintro e V ⟨bh, rfl, hbh, hfl, hbV⟩
  have hstart : TmR w V w.heap.size bh X p 0 none 0 := ⟨World.ownsRow_nil _ _ _ _, (hbV.block _ (by simp)).trans HB0.out, hfl, HB1.out.trans (hbV.mono HB1.out.size)⟩
  have hbh' : w.heap.size < bh := by simp at hbh; omega
  have HST := Lib.hid hstart
  clear hmk hbh hfl hbV hstart HHo HH HB0 HB1
  go_wp2_with fail
  go_loopw [5, 20] (fun l t wr => ∃ (k : Nat) (A' : Option Addr) (cap' : Nat), k ≤ p + 1 ∧ t = .int .i64 k ∧ l = .slice A' (Tm.tst X (Tm.hang X p) k).2.length cap' ∧ TmR w wr w.heap.size bh X p k A' cap') (fun _ t _ => p + 1 - (intOf t).toNat)
  case atStart => exact ⟨0, none, 0, Nat.zero_le _, rfl, rfl, HST.out⟩
  case round =>
    obtain ⟨k, A', cap', hk, rfl, rfl, hT⟩ := hrel
    by_cases hlt : k < p + 1
    · have d0 := (hT.fl.c k).trans (brow_at hlt)
      have hk1 : (k : Int) < (p : Int) + 1 := by omega
      have hk0 : (0 : Int) ≤ k := by omega
      by_cases hF : Tm.hang X p k = true
      · have HF := Lib.hid hF
        rw [hF] at d0
        have hBw := hT.bel
        have hA := HA.out.below hBw
        have hst := (hT.at'.c k).trans (irow_at hlt)
        have hfz := hT.at'.fr k
        have hU := hT.store hF hbh'
        clear hF hBw
        generalize hln : (Tm.tst X (Tm.hang X p) k).2.length = ln at *
        have hlk : ln ≤ k := by rw [← hln]; exact Tm.tst_len X (Tm.hang X p) k
        have HLN := Lib.hid hln
        clear hln
        have hAU := hA.keep (w' := wr.setCell ⟨w.heap.size, k, none⟩ (.int .i64 ln)) (by simp) (fun j hj => Below.heap_setCell _ _ _ _ (by
          rcases hj with rfl | rfl | hj
          · exact Nat.ne_of_lt HA.out.blk.lt
          · exact Nat.ne_of_lt HA.out.mlt
          · exact Nat.ne_of_lt (HA.out.ne.2 j hj).2.2))
        have HT := Lib.hid hT
        clear hT hA
        go_upto_region 10 with fail
        clear hst hfz d0
        revert hU hAU
        generalize wr.setCell ⟨w.heap.size, k, none⟩ (.int .i64 ln) = U
        intro hU hAU
        have e0 : U.cell? ⟨g, 0, none⟩ = some (.slice A X.length cap) := hAU.blk.c 0
        obtain ⟨bb, oo, rfl, hbb, hx⟩ := hAU.nd.mem (by have := HP.out; omega)
        obtain ⟨x0, x1, x2, x3, x4, x5⟩ := hx k (by have := HP.out; omega)
        have hkx : (k : Int) < X.length := by have := HP.out; omega
        have hok := Tm.flt_zero (hAU.ok k (by have := HP.out; omega))
        have hmd := moved_any (X.getD k Tm.z) (some ⟨w.heap.size, 0, none⟩) (p + 1) (p + 1) _ U hU.inr (Tm.kok_mono (by omega) hok.2.2.1)
        have HNX := Lib.hid hU.nx
        have HU := Lib.hid hU
        clear hx hok hAU hU
        generalize X.length = lx at e0 hkx
        generalize X.getD k Tm.z = nd at *
        generalize hmv : Tm.mvd nd _ = md at hmd HNX
        clear hmv
        obtain ⟨op, v, n, a, b, c⟩ := nd
        obtain ⟨op', v', n', a', b', c'⟩ := md
        dsimp only [ndv] at x0 x1 x2 x3 x4 x5 hmd HNX
        have HMD := Lib.hid hmd
        clear hmd
        go_wp2_with fail
        refine HMD.out.mono ?_
        rintro e V2 ⟨rfl, hb2⟩
        have HU2 := Lib.hid (HU.out.below hb2)
        have HRW := Lib.hid (show World.ownsRow (V2.alloc (.cells #[.int .i64 op', .int .i64 v', .int .u64 n', .int .i64 a', .int .i64 b', .int .i64 c'] 36)) (bh + 1) 36 6 (.slice A' ln cap') ln ((Tm.tst X (Tm.hang X p) k).2.flatMap cells6) by
          have := HU2.out.row.alloc (.cells #[.int .i64 op', .int .i64 v', .int .u64 n', .int .i64 a', .int .i64 b', .int .i64 c'] 36)
          rw [HLN.out] at this
          exact this)
        have HNW := Lib.hid (news6 V2 ⟨op', v', n', a', b', c'⟩)
        have HBB := Lib.hid (show bh + 1 ≤ V2.heap.size from HU2.out.fl.lt)
        clear hb2 x0 x1 x2 x3 x4 x5 e0
        obtain ⟨i0, hi0, hz0, hz1, hz2⟩ := info_parts info38
        go_wp2_with (at_builtin
                     refine wpList_apS (w := V2.alloc (.cells #[.int .i64 op', .int .i64 v', .int .u64 n', .int .i64 a', .int .i64 b', .int .i64 c'] 36)) rfl (.tmp 31) (.tmp 41) 22 rfl (bh + 1) 36 i0 _ 6 48 Try.underlying22 hi0 hz0 hz1 hz2 rfl (by omega) (.slice A' ln cap') ln ((Tm.tst X (Tm.hang X p) k).2.flatMap cells6) rfl
                       HRW.out ⟨V2.heap.size, 0, none⟩ 1 1 (cells6 ⟨op', v', n', a', b', c'⟩) rfl rfl HNW.out (one6 _) (by have := HS.out; have := HP.out; simp only [maxLen]; omega) (by have := HS.out; have := HP.out; omega) (by have := HBB.out; simp; omega) (ln + 1) (((Tm.tst X (Tm.hang X p) k).2 ++ [(⟨op', v', n', a', b', c'⟩ : Tm.Nd)]).flatMap cells6) rfl (by simp) ?_
                     intro A2 cap2 V3 hrow hgrow hmv
                     have HR3 := Lib.hid hrow
                     have HG3 := Lib.hid hgrow
                     clear hrow hgrow hmv)
        go_roundw
        case rel =>
          refine ⟨k + 1, A2, cap2, by omega, by go_num, ?_, HU2.out.app HNX.out (by rw [HLN.out]; exact HR3.out) (by rw [HLN.out]; exact HG3.out)⟩
          rw [HNX.out, List.length_append, List.length_singleton, HLN.out]
        case measure => simp [intOf]; omega
      · have hF' : Tm.hang X p k = false := by simpa using hF
        have HT := Lib.hid (hT.no hF')
        have HTN := Lib.hid (Tm.tst_no (X := X) (F := Tm.hang X p) (k := k) hF')
        rw [hF'] at d0
        clear hF hF' hT
        go_wp2
        go_roundw
        case rel => exact ⟨k + 1, A', cap', by omega, by go_num, by rw [HTN.out], HT.out⟩
        case measure => simp [intOf]; omega
    · have hke : k = p + 1 := by omega
      subst hke
      have HT := Lib.hid hT
      clear hT
      go_wp2
      go_ret
      exact ⟨A', cap', rfl, own_base HT.out.row (by omega), HT.out.bel⟩
end Go.Proofs.Ytdbcpnpcnkccaaa
namespace Go.Proofs.Ytdbcpnpcnkccaaa
set_option maxRecDepth 100000
open Go.RowKit Go.Maps

theorem make_any (g bm : Nat) (A : Option Addr) (cap : Nat) (X : List Tm.Nd) (q : Nat) (nd : Tm.Nd) (w : World) (h : Ar w g bm A cap X q) (hq : q < 1000000000) (hw : Tm.Wf nd) (hl : X.length < 65536) :
    Calls Try.prog 42 #[.pointer (some ⟨g, 0, none⟩), ndv nd] w (MkP g bm A X q nd w) := by
  by_cases hin : nd ∈ X
  · exact make_in g bm A cap X q nd w h hq hw hin
  · exact make_out g bm A cap X q nd w h hq hw hin hl

def n0 : Tm.Nd := ⟨1, 8, 0, 0, 0, 0⟩
def n1 : Tm.Nd := ⟨6, 64, 0, 0, 0, 0⟩
def n2 : Tm.Nd := ⟨0, 64, 5, 0, 0, 0⟩
def n3 : Tm.Nd := ⟨8, 64, 0, 1, 2, 0⟩
theorem mk0 : Tm.mk [] n0 = ([n0], 0, 0) := by decide
theorem mk1 : Tm.mk [n0] n1 = ([n0, n1], 1, 0) := by decide
theorem mk2 : Tm.mk [n0, n1] n2 = ([n0, n1, n2], 2, 0) := by decide
theorem mk3 : Tm.mk [n0, n1, n2] n3 = ([n0, n1, n2, n3], 3, 0) := by decide
theorem mk4 : Tm.mk [n0, n1, n2, n3] n0 = ([n0, n1, n2, n3], 0, 0) := by decide
theorem te1 : (Tm.term [n0, n1, n2, n3] 1).length = 2 := by decide
theorem wf0 : Tm.Wf n0 := ⟨by decide, by decide, by decide, by decide, by decide, by decide⟩
theorem wf1 : Tm.Wf n1 := ⟨by decide, by decide, by decide, by decide, by decide, by decide⟩
theorem wf2 : Tm.Wf n2 := ⟨by decide, by decide, by decide, by decide, by decide, by decide⟩
theorem wf3 : Tm.Wf n3 := ⟨by decide, by decide, by decide, by decide, by decide, by decide⟩

/-- The world of an arena that was made behind n blocks. -/
structure Aw (n : Nat) (w0 w : World) (g bm : Nat) (A : Option Addr) (cap : Nat) (X : List Tm.Nd) (q : Nat) : Prop where
  ar : Ar w g bm A cap X q
  bel : Below n w0 w
  hg : n ≤ g
  hm : n ≤ bm
  ho : ∀ k, oblk A = some k → n ≤ k
theorem Aw.fr {n : Nat} {w0 w w' : World} {g bm : Nat} {A A' : Option Addr} {cap cap' : Nat} {X X' : List Tm.Nd} {q q' : Nat} (h : Aw n w0 w g bm A cap X q) (ha : Ar w' g bm A' cap' X' q') (hf : Fr g (some bm) (oblk A) w w') (hv : Moves w.heap.size (oblk A) (oblk A')) (hn : n ≤ w.heap.size) : Aw n w0 w' g bm A' cap' X' q' := by
  have hB : Below n w w' := ⟨hf.os, hf.tape, hf.output, hf.size, fun k hk => hf.block k (by omega) (by have := h.hg; omega) (fun e => by injection e with e; have := h.hm; omega) (fun e => by have := h.ho k e.symm; omega)⟩
  refine ⟨ha, h.bel.trans hB, h.hg, h.hm, fun k hk => ?_⟩
  rcases hv with e | ⟨j, hj, e⟩
  · exact h.ho k (e ▸ hk)
  · rw [e] at hk; injection hk with hk; omega
theorem Aw.below {n : Nat} {w0 w w' : World} {g bm : Nat} {A : Option Addr} {cap : Nat} {X : List Tm.Nd} {q : Nat} (h : Aw n w0 w g bm A cap X q) (hb : Below w.heap.size w w') (hn : n ≤ w.heap.size) : Aw n w0 w' g bm A cap X q :=
  ⟨h.ar.below hb, h.bel.trans (hb.mono hn), h.hg, h.hm, h.ho⟩

set_option maxRecDepth 20000 in
set_option maxHeartbeats 4000000 in
theorem awake_any (w : World) : Calls Try.prog 14 #[] w fun e w' => e = .returned (.bool true) ∧ Below w.heap.size w w' := by
  go_enter Try.func14, Try.ntmps14
  go_wp2_with fail
  refine (new_any w).mono ?_
  rintro e w0 ⟨g, bm, rfl, hA, hb, hg, hbm⟩
  have H0 := Lib.hid (show Aw w.heap.size w w0 g bm none 0 [] 0 from ⟨hA, hb, hg, hbm, fun k hk => by simp [oblk] at hk⟩)
  clear hA hb hg hbm
  have M0 := Lib.hid (show Calls Try.prog 42 #[.pointer (some ⟨g, 0, none⟩), .agg #[.int .i64 1, .int .i64 8, .int .u64 0, .int .i64 0, .int .i64 0, .int .i64 0]] w0 (MkP g bm none [] 0 n0 w0) from make_any g bm none 0 [] 0 n0 w0 H0.out.ar (by omega) wf0 (by decide))
  go_wp2_with fail
  refine M0.out.mono ?_
  rintro e w1 ⟨A1, cap1, rfl, hA, hf, hv⟩
  rw [mk0] at hA
  have H1 := Lib.hid (H0.out.fr hA hf hv H0.out.bel.size)
  rw [mk0]
  clear hA hf hv M0
  dsimp only
  have M1 := Lib.hid (show Calls Try.prog 42 #[.pointer (some ⟨g, 0, none⟩), .agg #[.int .i64 6, .int .i64 64, .int .u64 0, .int .i64 0, .int .i64 0, .int .i64 0]] w1 (MkP g bm A1 [n0] 1 n1 w1) from make_any g bm A1 cap1 [n0] 1 n1 w1 H1.out.ar (by omega) wf1 (by decide))
  go_wp2_with fail
  refine M1.out.mono ?_
  rintro e w2 ⟨A2, cap2, rfl, hA, hf, hv⟩
  rw [mk1] at hA
  have H2 := Lib.hid (H1.out.fr hA hf hv H1.out.bel.size)
  rw [mk1]
  clear hA hf hv M1
  dsimp only
  have M2 := Lib.hid (show Calls Try.prog 42 #[.pointer (some ⟨g, 0, none⟩), .agg #[.int .i64 0, .int .i64 64, .int .u64 5, .int .i64 0, .int .i64 0, .int .i64 0]] w2 (MkP g bm A2 [n0, n1] 2 n2 w2) from make_any g bm A2 cap2 [n0, n1] 2 n2 w2 H2.out.ar (by omega) wf2 (by decide))
  go_wp2_with fail
  refine M2.out.mono ?_
  rintro e w3 ⟨A3, cap3, rfl, hA, hf, hv⟩
  rw [mk2] at hA
  have H3 := Lib.hid (H2.out.fr hA hf hv H2.out.bel.size)
  rw [mk2]
  clear hA hf hv M2
  dsimp only
  have M3 := Lib.hid (show Calls Try.prog 42 #[.pointer (some ⟨g, 0, none⟩), .agg #[.int .i64 8, .int .i64 64, .int .u64 0, .int .i64 1, .int .i64 2, .int .i64 0]] w3 (MkP g bm A3 [n0, n1, n2] 3 n3 w3) from make_any g bm A3 cap3 [n0, n1, n2] 3 n3 w3 H3.out.ar (by omega) wf3 (by decide))
  go_wp2_with fail
  refine M3.out.mono ?_
  rintro e w4 ⟨A4, cap4, rfl, hA, hf, hv⟩
  rw [mk3] at hA
  have H4 := Lib.hid (H3.out.fr hA hf hv H3.out.bel.size)
  rw [mk3]
  clear hA hf hv M3
  dsimp only
  have M4 := Lib.hid (show Calls Try.prog 42 #[.pointer (some ⟨g, 0, none⟩), .agg #[.int .i64 1, .int .i64 8, .int .u64 0, .int .i64 0, .int .i64 0, .int .i64 0]] w4 (MkP g bm A4 [n0, n1, n2, n3] 4 n0 w4) from make_any g bm A4 cap4 [n0, n1, n2, n3] 4 n0 w4 H4.out.ar (by omega) wf0 (by decide))
  go_wp2_with fail
  refine M4.out.mono ?_
  rintro e w5 ⟨A5, cap5, rfl, hA, hf, hv⟩
  rw [mk4] at hA
  have H5 := Lib.hid (H4.out.fr hA hf hv H4.out.bel.size)
  rw [mk4]
  clear hA hf hv M4
  dsimp only
  have ML := Lib.hid (len_any H5.out.ar)
  have MT := Lib.hid (term_in g bm A5 cap5 [n0, n1, n2, n3] 5 1 w5 H5.out.ar (by decide) (by decide))
  go_wp2_with (go_at_call 18; refine ML.out.mono ?_; rintro e w' ⟨rfl, rfl⟩)
  refine MT.out.mono ?_
  rintro e v ⟨A6, cap6, rfl, _, hb⟩
  rw [te1]
  have HB := Lib.hid (H5.out.bel.trans (hb.mono H5.out.bel.size))
  clear hb
  go_wp2
  go_ret
  exact ⟨rfl, HB.out⟩
end Go.Proofs.Ytdbcpnpcnkccaaa
namespace Go.Proofs.Ytdbcpnpcnkccaaa
set_option maxRecDepth 100000
open Go.RowKit Go.Maps

theorem NdSl.of_own {w : World} {base : Nat} {A : Option Addr} {n cap : Nat} {X : List Tm.Nd} (h : w.ownsRow base 36 6 (.slice A n cap) n (X.flatMap cells6)) (hw : ∀ x ∈ X, Tm.Wf x) : NdSl w A n cap X := by
  have hl : X.length = n := by have := h.1; rw [cells6_len] at this; omega
  rcases h.2 with ⟨e, h0⟩ | ⟨g', cap', cur, e', _, hc, h1, h2, _⟩
  · injection e with e1 e2 e3
    subst e1 e3
    exact ⟨hl, ⟨by omega, Nat.zero_le _, fun _ => h0, fun hn => by omega⟩, hw⟩
  · have hcell := h.cells (g := g')
    injection e' with e1 e2 e3
    subst e1 e3
    have hcell := hcell rfl
    have hcs : ∀ j u, (X.flatMap cells6)[j]? = some u → w.cell? ⟨g', j, none⟩ = some u := fun j u hu => by
      have := hcell j u hu
      rw [add_at, Nat.zero_add] at this
      exact this
    refine ⟨hl, ⟨h1, h2, (fun e => by cases e), fun h0 => ⟨g', 0, rfl, (Array.getElem?_eq_some_iff.1 hc).1, fun i hi => ?_⟩⟩, hw⟩
    have k0 := cells6_at X i 0 (by omega) (by omega)
    have k1 := cells6_at X i 1 (by omega) (by omega)
    have k2 := cells6_at X i 2 (by omega) (by omega)
    have k3 := cells6_at X i 3 (by omega) (by omega)
    have k4 := cells6_at X i 4 (by omega) (by omega)
    have k5 := cells6_at X i 5 (by omega) (by omega)
    rw [Nat.zero_add]
    exact ⟨hcs _ _ k0, hcs _ _ k1, hcs _ _ k2, hcs _ _ k3, hcs _ _ k4, hcs _ _ k5⟩
theorem run_ap_nil {P : Program} (w : World) (base : Nat) (t ty e : TypeId) (i : TypeInfo) (size : Nat) (ht : P.underlying t = some (.slice e)) (hi : P.info? e = some i)
    (v : Value) (n : Nat) (xs : List Value) (hown : w.ownsRow base e size v n xs) (c : Nat) : (Builtin.append_ #[t, t] ty #[v, .slice none 0 c]).run P w = .ok v w := by
  rcases hown.2 with ⟨rfl, rfl⟩ | ⟨g, cap, cur, rfl, _, _, hnc, _⟩
  · simp [Builtin.append_, run_underlying ht, sizeOf, typeInfo, hi, Builtin.lenOf, Builtin.firstCells]
  · simp [Builtin.append_, run_underlying ht, sizeOf, typeInfo, hi, Builtin.lenOf, Builtin.firstCells, hnc, storeCells]
theorem flat_one (X : List Tm.Nd) : ∀ u ∈ X.flatMap cells6, u.oneCell' = true := fun u hu => by
  obtain ⟨x, _, hx⟩ := List.mem_flatMap.1 hu
  exact one6 x u hx
theorem flat_cell {w : World} {b o m : Nat} {X : List Tm.Nd} (hl : X.length = m) (hx : ∀ i, i < m → NdAt w b (o + i * 6) (X.getD i Tm.z)) : ∀ j u, (X.flatMap cells6)[j]? = some u → w.cell? ((⟨b, o, none⟩ : Addr).add j) = some u := fun j u hu => by
  have hj : j < (X.flatMap cells6).length := by
    rcases Nat.lt_or_ge j (X.flatMap cells6).length with h | h
    · exact h
    · rw [List.getElem?_eq_none h] at hu; cases hu
  rw [cells6_len] at hj
  have e : j = j / 6 * 6 + j % 6 := by omega
  rw [e, cells6_at X (j / 6) (j % 6) (by omega) (by omega)] at hu
  rw [add_at, e]
  obtain ⟨k0, k1, k2, k3, k4, k5⟩ := hx (j / 6) (by omega)
  have h6 : j % 6 = 0 ∨ j % 6 = 1 ∨ j % 6 = 2 ∨ j % 6 = 3 ∨ j % 6 = 4 ∨ j % 6 = 5 := by omega
  rw [← Nat.add_assoc]
  rcases h6 with h | h | h | h | h | h <;> rw [h] at hu ⊢ <;> simp [cells6] at hu <;> subst hu <;> assumption

/-- append of a list of nodes, nil or not, onto a row of the call's own. -/
theorem run_apN (w : World) (base : Nat) (ty : TypeId) (A0 : Option Addr) (n cap0 : Nat) (Y : List Tm.Nd) (hown : w.ownsRow base 36 6 (.slice A0 n cap0) n (Y.flatMap cells6))
    (A : Option Addr) (m c : Nat) (X : List Tm.Nd) (hr : NdSl w A m c X) (hs : n + m ≤ 1000000) (hbase : base ≤ w.heap.size) :
    ∃ A' cap' w', (Builtin.append_ #[22, 22] ty #[.slice A0 n cap0, .slice A m c]).run Try.prog w = .ok (.slice A' (n + m) cap') w' ∧ w'.ownsRow base 36 6 (.slice A' (n + m) cap') (n + m) ((Y ++ X).flatMap cells6) ∧ Below base w w' ∧ (oblk A' = oblk A0 ∨ oblk A' = some w.heap.size) := by
  obtain ⟨i0, hi0, hz0, hz1, hz2⟩ := info_parts info38
  rcases A with _ | ad
  · obtain rfl := hr.nd.hnone rfl
    have hX : X = [] := List.eq_nil_of_length_eq_zero hr.hlen
    subst hX
    exact ⟨A0, cap0, w, run_ap_nil w base 22 ty 36 i0 6 Try.underlying22 hi0 _ n _ hown c, by simpa using hown, Below.refl _ _, .inl rfl⟩
  · have hcells : ∀ j u, (X.flatMap cells6)[j]? = some u → w.cell? (ad.add j) = some u := fun j u hu => by
      rcases Nat.eq_zero_or_pos m with h0 | h0
      · have hX : X = [] := List.eq_nil_of_length_eq_zero (hr.hlen.trans h0)
        subst hX
        simp at hu
      · obtain ⟨b, o', he, _, hc⟩ := hr.nd.mem h0
        injection he with he
        subst he
        exact flat_cell hr.hlen hc j u hu
    obtain ⟨v', w', hrun, h2, h3, _, h5⟩ := run_append_own_at (P := Try.prog) w base 22 ty 36 i0 _ 6 48 Try.underlying22 hi0 hz0 hz1 hz2 rfl (by omega) _ n _ hown ad m c (X.flatMap cells6) (by rw [cells6_len, hr.hlen]) hcells (flat_one X) (by simp only [maxLen]; omega) (by omega) hbase
    have hv : ∃ A' cap', v' = .slice A' (n + m) cap' := by
      rcases h2.2 with ⟨rfl, h0⟩ | ⟨g, cap, cur, rfl, _⟩
      · exact ⟨none, 0, by rw [h0]⟩
      · exact ⟨_, _, rfl⟩
    obtain ⟨A', cap', rfl⟩ := hv
    rw [own_is, own_is] at h5
    exact ⟨A', cap', w', hrun, by rw [List.flatMap_append]; exact h2, (Below.refl _ _).grown h3 hbase (own_ge hown), h5⟩
theorem wpList_apN {w : World} {ops : Array Oper} {rest : List Oper} {o : Oper} {a : Act} {Q : Exit → Act → World → Prop} (hgd : o.guard = none) (s x : Operand)
    (ho : o.op = .call { callee := .builtin .append, args := #[s, x], argTypes := #[22, 22] })
    (base : Nat) (A0 : Option Addr) (n cap0 : Nat) (Y : List Tm.Nd) (hs : a.eval s = .slice A0 n cap0) (hown : w.ownsRow base 36 6 (.slice A0 n cap0) n (Y.flatMap cells6))
    (A : Option Addr) (m c : Nat) (X : List Tm.Nd) (hx : a.eval x = .slice A m c) (hr : NdSl w A m c X) (hsm : n + m ≤ 1000000) (hbase : base ≤ w.heap.size) (N : Nat) (hN : n + m = N)
    (h : ∀ A' cap' w', w'.ownsRow base 36 6 (.slice A' N cap') N ((Y ++ X).flatMap cells6) → Below base w w' → (oblk A' = oblk A0 ∨ oblk A' = some w.heap.size) → wpList Try.prog ops Q rest (a.put o.dst (.slice A' N cap')) w') : wpList Try.prog ops Q (o :: rest) a w := by
  subst hN
  obtain ⟨A', cap', w', hrun, h2, h3, h5⟩ := run_apN w base o.type A0 n cap0 Y hown A m c X hr hsm hbase
  refine wpList_plain hgd fun K hK => ?_
  unfold Oper.wp execOp
  simp only [ho, resolve, invoke, builtin, Sem.run_bind, Sem.run_pure, Result.andThen_ok, List.map_toArray, List.map_cons, List.map_nil, hs, hx, hrun]
  exact hK _ _ (h A' cap' w' h2 h3 h5)
/-- An empty row of nodes, just made. -/
theorem own_new (w : World) : (w.alloc (.cells #[] 36)).ownsRow w.heap.size 36 6 (.slice (some ⟨w.heap.size, 0, none⟩) 0 0) 0 (([] : List Tm.Nd).flatMap cells6) :=
  ⟨rfl, .inr ⟨w.heap.size, 0, #[], rfl, Nat.le_refl _, heap_alloc_new w _, Nat.le_refl _, Nat.zero_le _, rfl, rfl⟩⟩

end Go.Proofs.Ytdbcpnpcnkccaaa
namespace Go.Proofs.Ytdbcpnpcnkccaaa
set_option maxRecDepth 100000
open Go.RowKit Go.Maps

theorem grownBy_refl (w : World) (r : Option Nat) : w.grownBy w r := ⟨rfl, rfl, rfl, Nat.le_refl _, fun _ _ _ => rfl⟩
theorem run_apG (w : World) (base : Nat) (ty : TypeId) (A0 : Option Addr) (n cap0 : Nat) (Y : List Tm.Nd) (hown : w.ownsRow base 36 6 (.slice A0 n cap0) n (Y.flatMap cells6))
    (A : Option Addr) (m c : Nat) (X : List Tm.Nd) (hr : NdSl w A m c X) (hs : n + m ≤ 1000000) (hbase : base ≤ w.heap.size) :
    ∃ A' cap' w', (Builtin.append_ #[22, 22] ty #[.slice A0 n cap0, .slice A m c]).run Try.prog w = .ok (.slice A' (n + m) cap') w' ∧ w'.ownsRow base 36 6 (.slice A' (n + m) cap') (n + m) ((Y ++ X).flatMap cells6) ∧ w.grownBy w' (oblk A0) ∧ (oblk A' = oblk A0 ∨ oblk A' = some w.heap.size) := by
  obtain ⟨i0, hi0, hz0, hz1, hz2⟩ := info_parts info38
  rcases A with _ | ad
  · obtain rfl := hr.nd.hnone rfl
    have hX : X = [] := List.eq_nil_of_length_eq_zero hr.hlen
    subst hX
    exact ⟨A0, cap0, w, run_ap_nil w base 22 ty 36 i0 6 Try.underlying22 hi0 _ n _ hown c, by simpa using hown, grownBy_refl _ _, .inl rfl⟩
  · have hcells : ∀ j u, (X.flatMap cells6)[j]? = some u → w.cell? (ad.add j) = some u := fun j u hu => by
      rcases Nat.eq_zero_or_pos m with h0 | h0
      · have hX : X = [] := List.eq_nil_of_length_eq_zero (hr.hlen.trans h0)
        subst hX
        simp at hu
      · obtain ⟨b, o', he, _, hc⟩ := hr.nd.mem h0
        injection he with he
        subst he
        exact flat_cell hr.hlen hc j u hu
    obtain ⟨v', w', hrun, h2, h3, _, h5⟩ := run_append_own_at (P := Try.prog) w base 22 ty 36 i0 _ 6 48 Try.underlying22 hi0 hz0 hz1 hz2 rfl (by omega) _ n _ hown ad m c (X.flatMap cells6) (by rw [cells6_len, hr.hlen]) hcells (flat_one X) (by simp only [maxLen]; omega) (by omega) hbase
    have hv : ∃ A' cap', v' = .slice A' (n + m) cap' := by
      rcases h2.2 with ⟨rfl, h0⟩ | ⟨g, cap, cur, rfl, _⟩
      · exact ⟨none, 0, by rw [h0]⟩
      · exact ⟨_, _, rfl⟩
    obtain ⟨A', cap', rfl⟩ := hv
    rw [own_is, own_is] at h5
    rw [own_is] at h3
    exact ⟨A', cap', w', hrun, by rw [List.flatMap_append]; exact h2, h3, h5⟩
/-- One step of a region: an append. -/
theorem step_apG {w : World} {ops : Array Oper} {o : Oper} {a : Act} {K : Act → World → Prop} {Q : Exit → Act → World → Prop} {E : Prop} (hgd : o.guard = none) (s x : Operand)
    (ho : o.op = .call { callee := .builtin .append, args := #[s, x], argTypes := #[22, 22] })
    (base : Nat) (A0 : Option Addr) (n cap0 : Nat) (Y : List Tm.Nd) (hs : a.eval s = .slice A0 n cap0) (hown : w.ownsRow base 36 6 (.slice A0 n cap0) n (Y.flatMap cells6))
    (A : Option Addr) (m c : Nat) (X : List Tm.Nd) (hx : a.eval x = .slice A m c) (hr : NdSl w A m c X) (hsm : n + m ≤ 1000000) (hbase : base ≤ w.heap.size) (N : Nat) (hN : n + m = N)
    (h : ∀ A' cap' w', w'.ownsRow base 36 6 (.slice A' N cap') N ((Y ++ X).flatMap cells6) → w.grownBy w' (oblk A0) → (oblk A' = oblk A0 ∨ oblk A' = some w.heap.size) → K (a.put o.dst (.slice A' N cap')) w') :
    if Region.wanted o (yielded ops a.tmps) = true then Oper.wp Try.prog o a w K Q else E := by
  subst hN
  have hw : Region.wanted o (yielded ops a.tmps) = true := by simp [Region.wanted, hgd]
  rw [if_pos hw]
  obtain ⟨A', cap', w', hrun, h2, h3, h5⟩ := run_apG w base o.type A0 n cap0 Y hown A m c X hr hsm hbase
  unfold Oper.wp execOp
  simp only [ho, resolve, invoke, builtin, Sem.run_bind, Sem.run_pure, Result.andThen_ok, List.map_toArray, List.map_cons, List.map_nil, hs, hx, hrun]
  exact h A' cap' w' h2 h3 h5
/-- Behind the first append, and with the node's row. -/
structure Two (V W : World) (A : Option Addr) (len cap : Nat) (X : List Tm.Nd) (b : Nat) (nd : Tm.Nd) : Prop where
  row : W.ownsRow V.heap.size 36 6 (.slice A len cap) len (X.flatMap cells6)
  blk : Blk W b 36 #[.int .i64 nd.op, .int .i64 nd.w, .int .u64 nd.n, .int .i64 nd.a, .int .i64 nd.b, .int .i64 nd.c]
  bel : Below V.heap.size V W
theorem Two.one {V W : World} {A : Option Addr} {len cap : Nat} {X : List Tm.Nd} {b : Nat} {nd : Tm.Nd} (h : Two V W A len cap X b nd) (hw : Tm.Wf nd) : NdSl W (some ⟨b, 0, none⟩) 1 1 [nd] :=
  ⟨rfl, ⟨Nat.le_refl _, by simp [maxLen], fun e => (by cases e), fun _ => ⟨b, 0, rfl, h.blk.lt, fun i hi => by
    obtain rfl : i = 0 := by omega
    exact ⟨h.blk.c 0, h.blk.c 1, h.blk.c 2, h.blk.c 3, h.blk.c 4, h.blk.c 5⟩⟩⟩, fun x hx => by rw [List.mem_singleton.1 hx]; exact hw⟩
/-- The list was appended first. -/
theorem Two.a {V W : World} {A : Option Addr} {len cap : Nat} {X : List Tm.Nd} {nd : Tm.Nd} (hrow : W.ownsRow V.heap.size 36 6 (.slice A len cap) len (X.flatMap cells6)) (hb : Below V.heap.size V W) :
    Two V (W.alloc (.cells #[.int .i64 nd.op, .int .i64 nd.w, .int .u64 nd.n, .int .i64 nd.a, .int .i64 nd.b, .int .i64 nd.c] 36)) A len cap X W.heap.size nd :=
  ⟨hrow.alloc _, Blk.new W _ _, hb.alloc hb.size _⟩
/-- The node was laid first. -/
theorem Two.b {V U W : World} {A A0 : Option Addr} {len cap : Nat} {X : List Tm.Nd} {b : Nat} {nd : Tm.Nd} (hrow : W.ownsRow V.heap.size 36 6 (.slice A len cap) len (X.flatMap cells6)) (hg : U.grownBy W (oblk A0)) (hbU : Below V.heap.size V U)
    (hblk : Blk U b 36 #[.int .i64 nd.op, .int .i64 nd.w, .int .u64 nd.n, .int .i64 nd.a, .int .i64 nd.b, .int .i64 nd.c]) (hne : oblk A0 ≠ some b) (hge : ∀ k, oblk A0 = some k → V.heap.size ≤ k) : Two V W A len cap X b nd :=
  ⟨hrow, (hg.block b hblk.lt (fun e => hne e.symm)).trans hblk, hbU.trans ((Below.refl _ _).grown hg hbU.size hge)⟩
end Go.Proofs.Ytdbcpnpcnkccaaa
namespace Go.Proofs.Ytdbcpnpcnkccaaa
set_option maxRecDepth 100000
open Go.RowKit Go.Maps

theorem run_eq3 (a b c a' b' c' : Int) (W : World) : (Op.equalIn 9999 34 (.agg #[.int .i64 a, .int .i64 b, .int .i64 c]) (.agg #[.int .i64 a', .int .i64 b', .int .i64 c'])).run Try.prog W = .ok (decide (a = a') && (decide (b = b') && decide (c = c'))) W := by
  obtain ⟨i, hi, _⟩ := Option.map_eq_some_iff.1 i_info
  have h3 := Try.underlying3
  rw [run_equalIn_array (P := Try.prog) W 9998 _ _ Try.underlying34 hi, cells3]
  simp only [List.range, List.range.loop, Op.eqItems]
  go_simp
  repeat' split
  all_goals simp_all
/-- '==' and '!=' of two nodes. -/
def Tm.sm (x y : Tm.Nd) : Bool := decide (x = y)
theorem run_eql (op v n a b c op' v' n' a' b' c' : Int) (W : World) :
    (binOp .eql 36 (.agg #[.int .i64 op, .int .i64 v, .int .u64 n, .int .i64 a, .int .i64 b, .int .i64 c]) (.agg #[.int .i64 op', .int .i64 v', .int .u64 n', .int .i64 a', .int .i64 b', .int .i64 c'])).run Try.prog W =
      .ok (.bool (Tm.sm ⟨op, v, n, a, b, c⟩ ⟨op', v', n', a', b', c'⟩)) W := by
  have h := Try.underlying36
  have h36 := Try.underlying34
  have h3 := run_eq3 a b c a' b' c'
  unfold Tm.sm
  go_simp
  repeat' split
  all_goals simp_all
theorem run_neq (op v n a b c op' v' n' a' b' c' : Int) (W : World) :
    (binOp .neq 36 (.agg #[.int .i64 op, .int .i64 v, .int .u64 n, .int .i64 a, .int .i64 b, .int .i64 c]) (.agg #[.int .i64 op', .int .i64 v', .int .u64 n', .int .i64 a', .int .i64 b', .int .i64 c'])).run Try.prog W =
      .ok (.bool (!Tm.sm ⟨op, v, n, a, b, c⟩ ⟨op', v', n', a', b', c'⟩)) W := by
  have h := Try.underlying36
  have h36 := Try.underlying34
  have h3 := run_eq3 a b c a' b' c'
  unfold Tm.sm
  go_simp
  repeat' split
  all_goals simp_all
  all_goals omega

def Tm.find (X : List Tm.Nd) (nd : Tm.Nd) : Int := if nd ∈ X then (X.idxOf nd : Int) else -1
def Tm.Not (X : List Tm.Nd) (nd : Tm.Nd) (k : Nat) : Prop := ∀ j, j < k → X.getD j Tm.z ≠ nd
theorem Tm.idx_at : ∀ {X : List Tm.Nd} {nd : Tm.Nd} {k : Nat}, k < X.length → X.getD k Tm.z = nd → Tm.Not X nd k → nd ∈ X ∧ X.idxOf nd = k
  | [], _, _, h, _, _ => absurd h (by simp)
  | x :: r, nd, 0, _, he, _ => by
    have he : x = nd := he
    subst he
    simp
  | x :: r, nd, k + 1, h, he, hn => by
    have h0 : x ≠ nd := hn 0 (by omega)
    obtain ⟨h1, h2⟩ := Tm.idx_at (X := r) (nd := nd) (k := k) (by simpa using h) he (fun j hj => hn (j + 1) (by omega))
    refine ⟨List.mem_cons_of_mem _ h1, ?_⟩
    rw [List.idxOf_cons, h2]
    have : (x == nd) = false := by simpa using h0
    rw [this]
    rfl
theorem Tm.find_at {X : List Tm.Nd} {nd : Tm.Nd} {k : Nat} (h : k < X.length) (he : X.getD k Tm.z = nd) (hn : Tm.Not X nd k) : Tm.find X nd = k := by
  obtain ⟨h1, h2⟩ := Tm.idx_at h he hn
  rw [Tm.find, if_pos h1, h2]
theorem Tm.find_no {X : List Tm.Nd} {nd : Tm.Nd} (hn : Tm.Not X nd X.length) : Tm.find X nd = -1 := by
  rw [Tm.find, if_neg fun h => ?_]
  obtain ⟨i, hi, e⟩ := List.mem_iff_getElem.1 h
  exact hn i hi (by rw [List.getD_eq_getElem?_getD, List.getElem?_eq_getElem hi]; exact e)

set_option maxRecDepth 20000 in
set_option maxHeartbeats 2000000 in
theorem find_any (A : Option Addr) (len cap : Nat) (X : List Tm.Nd) (nd : Tm.Nd) (w : World) (hx : NdSl w A len cap X) :
    Calls Try.prog 84 #[.slice A len cap, ndv nd] w fun e w' => e = .returned (.int .i64 (Tm.find X nd)) ∧ Below w.heap.size w w' := by
  have hcl := hx.nd.hle
  have hcm := hx.nd.hcap
  unfold maxLen at hcm
  have HX := Lib.hid hx
  have HL := Lib.hid hx.hlen
  have HBX := Lib.hid (Bx.new w nd)
  have HB := Lib.hid (Below.box w (.cells #[.int .i64 nd.op, .int .i64 nd.w, .int .u64 nd.n, .int .i64 nd.a, .int .i64 nd.b, .int .i64 nd.c] 36))
  have HSZ := Lib.hid (show w.heap.size < (w.alloc (.cells #[.int .i64 nd.op, .int .i64 nd.w, .int .u64 nd.n, .int .i64 nd.a, .int .i64 nd.b, .int .i64 nd.c] 36)).heap.size by simp)
  clear hx
  obtain ⟨op, v, n, a, b, c⟩ := nd
  dsimp only [ndv] at *
  go_enter Try.func84, Try.ntmps84
  go_wp2
  go_loopw [5] (fun t wr => ∃ k : Nat, k ≤ len ∧ t = .int .i64 k ∧ Below w.heap.size w wr ∧ Bx wr w.heap.size ⟨op, v, n, a, b, c⟩ ∧ Tm.Not X ⟨op, v, n, a, b, c⟩ k) (fun t _ => len - (intOf t).toNat)
  case atStart => exact ⟨0, Nat.zero_le _, rfl, HB.out, HBX.out, fun j hj => absurd hj (by omega)⟩
  case round =>
    obtain ⟨k, hk, rfl, hbw, hbx, hnot⟩ := hrel
    have HBW := Lib.hid hbw
    have HBXr := Lib.hid hbx
    have HNT := Lib.hid hnot
    clear hnot
    by_cases hlt : k < len
    · obtain ⟨bb, oo, rfl, hbb, hxx⟩ := HX.out.nd.mem (by omega)
      obtain ⟨x0, x1, x2, x3, x4, x5⟩ := (hxx k hlt).keep (fun o => hbw.cell (p := ⟨bb, o, none⟩) hbb)
      obtain ⟨b0, b1, b2, b3, b4, b5⟩ := hbx
      dsimp only at b0 b1 b2 b3 b4 b5
      have hk1 : (k : Int) < len := by omega
      have hk0 : (0 : Int) ≤ k := by omega
      obtain ⟨md, hmd⟩ : ∃ md, X.getD k Tm.z = md := ⟨_, rfl⟩
      rw [hmd] at x0 x1 x2 x3 x4 x5
      have HMD := Lib.hid hmd
      clear hbw hxx hmd
      obtain ⟨op', v', n', a', b', c'⟩ := md
      dsimp only at x0 x1 x2 x3 x4 x5
      have heq := run_eql op' v' n' a' b' c' op v n a b c
      by_cases hs : (⟨op', v', n', a', b', c'⟩ : Tm.Nd) = ⟨op, v, n, a, b, c⟩
      · have HS := Lib.hid hs
        have hsm : Tm.sm ⟨op', v', n', a', b', c'⟩ ⟨op, v, n, a, b, c⟩ = true := decide_eq_true hs
        rw [hsm] at heq
        clear hs hsm
        go_wp2_with fail
        go_quiet (fail)
        go_wp2
        go_ret
        exact ⟨ret_int (Tm.find_at (by have := HL.out; omega) (HMD.out.trans HS.out) HNT.out).symm, below_drewN HBW.out _⟩
      · have HS := Lib.hid hs
        have hsm : Tm.sm ⟨op', v', n', a', b', c'⟩ ⟨op, v, n, a, b, c⟩ = false := decide_eq_false hs
        rw [hsm] at heq
        clear hs hsm
        go_wp2_with fail
        go_quiet (fail)
        go_wp2
        go_roundw
        case rel =>
          refine ⟨k + 1, by omega, by go_num, below_drewN HBW.out _, HBXr.out.keep rfl, fun j hj => ?_⟩
          rcases Nat.lt_succ_iff_lt_or_eq.1 hj with h1 | h1
          · exact HNT.out j h1
          · rw [h1, HMD.out]; exact HS.out
        case measure => simp [intOf]; omega
    · have hke : k = len := by omega
      subst hke
      clear hbw hbx
      go_wp2
      go_ret
      exact ⟨ret_int (Tm.find_no (by rw [HL.out]; exact HNT.out)).symm, HBW.out⟩

def Tm.Eq (X Y : List Tm.Nd) (k : Nat) : Prop := ∀ j, j < k → X.getD j Tm.z = Y.getD j Tm.z
theorem Tm.eq_all {X Y : List Tm.Nd} (hl : X.length = Y.length) (h : Tm.Eq X Y X.length) : X = Y := by
  apply List.ext_getElem hl
  intro i h1 h2
  have := h i h1
  rwa [List.getD_eq_getElem?_getD, List.getD_eq_getElem?_getD, List.getElem?_eq_getElem h1, List.getElem?_eq_getElem h2] at this

set_option maxRecDepth 20000 in
set_option maxHeartbeats 2000000 in
theorem same_any (A : Option Addr) (len cap : Nat) (X : List Tm.Nd) (A' : Option Addr) (len' cap' : Nat) (Y : List Tm.Nd) (w : World) (hx : NdSl w A len cap X) (hy : NdSl w A' len' cap' Y) :
    Calls Try.prog 21 #[.slice A len cap, .slice A' len' cap'] w fun e w' => e = .returned (.bool (decide (X = Y))) ∧ ∃ n, w' = w.drewN n := by
  have hcl := hx.nd.hle
  have hcm := hx.nd.hcap
  have hcl' := hy.nd.hle
  have hcm' := hy.nd.hcap
  unfold maxLen at hcm hcm'
  have HX := Lib.hid hx
  have HY := Lib.hid hy
  have HL := Lib.hid hx.hlen
  have HL' := Lib.hid hy.hlen
  clear hx hy
  by_cases hll : len = len'
  · have hne : ((len : Int) != len') = false := by simp [hll]
    subst hll
    go_enter Try.func21, Try.ntmps21
    go_wp2
    go_loopw [5] (fun t wr => ∃ k : Nat, k ≤ len ∧ t = .int .i64 k ∧ (∃ n, wr = w.drewN n) ∧ Tm.Eq X Y k) (fun t _ => len - (intOf t).toNat)
    case atStart => exact ⟨0, Nat.zero_le _, rfl, ⟨0, rfl⟩, fun j hj => absurd hj (by omega)⟩
    case round =>
      obtain ⟨k, hk, rfl, ⟨nn, rfl⟩, hnot⟩ := hrel
      have HNT := Lib.hid hnot
      clear hnot
      by_cases hlt : k < len
      · obtain ⟨bb, oo, rfl, hbb, hxx⟩ := HX.out.nd.mem (by omega)
        obtain ⟨bb', oo', rfl, hbb', hyy⟩ := HY.out.nd.mem (by omega)
        obtain ⟨x0, x1, x2, x3, x4, x5⟩ := hxx k hlt
        obtain ⟨y0, y1, y2, y3, y4, y5⟩ := hyy k hlt
        have hk1 : (k : Int) < len := by omega
        have hk0 : (0 : Int) ≤ k := by omega
        obtain ⟨md, hmd⟩ : ∃ md, X.getD k Tm.z = md := ⟨_, rfl⟩
        obtain ⟨nd, hnd⟩ : ∃ nd, Y.getD k Tm.z = nd := ⟨_, rfl⟩
        rw [hmd] at x0 x1 x2 x3 x4 x5
        rw [hnd] at y0 y1 y2 y3 y4 y5
        have HMD := Lib.hid hmd
        have HND := Lib.hid hnd
        clear hxx hyy hmd hnd
        obtain ⟨op', v', n', a', b', c'⟩ := md
        obtain ⟨op, v, n, a, b, c⟩ := nd
        dsimp only at x0 x1 x2 x3 x4 x5 y0 y1 y2 y3 y4 y5
        have heq := run_neq op' v' n' a' b' c' op v n a b c
        by_cases hs : (⟨op', v', n', a', b', c'⟩ : Tm.Nd) = ⟨op, v, n, a, b, c⟩
        · have HS := Lib.hid hs
          have hsm : Tm.sm ⟨op', v', n', a', b', c'⟩ ⟨op, v, n, a, b, c⟩ = true := decide_eq_true hs
          rw [hsm] at heq
          clear hs hsm
          go_wp2_with fail
          go_quiet (fail)
          go_wp2
          go_roundw
          case rel =>
            refine ⟨k + 1, by omega, by go_num, ⟨nn + nq, ?_⟩, fun j hj => ?_⟩
            · first | rfl | rw [World.drewN_drewN]
            · rcases Nat.lt_succ_iff_lt_or_eq.1 hj with h1 | h1
              · exact HNT.out j h1
              · rw [h1, HMD.out, HND.out]; exact HS.out
          case measure => simp [intOf]; omega
        · have HS := Lib.hid hs
          have hsm : Tm.sm ⟨op', v', n', a', b', c'⟩ ⟨op, v, n, a, b, c⟩ = false := decide_eq_false hs
          rw [hsm] at heq
          clear hs hsm
          go_wp2_with fail
          go_quiet (fail)
          go_wp2
          go_ret
          refine ⟨ret_bool (decide_eq_false fun h => HS.out ?_).symm, nn + nq, ?_⟩
          · rw [← HMD.out, ← HND.out, h]
          · first | rfl | rw [World.drewN_drewN]
      · have hke : k = len := by omega
        subst hke
        go_wp2
        go_ret
        exact ⟨ret_bool (decide_eq_true (Tm.eq_all (by rw [HL.out, HL'.out]) (by rw [HL.out]; exact HNT.out))).symm, nn, rfl⟩
  · have hne : ((len : Int) != len') = true := by simp; omega
    have HN := Lib.hid hll
    clear hll
    go_enter Try.func21, Try.ntmps21
    go_wp2
    go_ret
    exact ⟨ret_bool (decide_eq_false fun h => HN.out (by rw [← HL.out, ← HL'.out, h])).symm, 0, rfl⟩
end Go.Proofs.Ytdbcpnpcnkccaaa
