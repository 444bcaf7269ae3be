/-
  Nodes in memory; contracts of kidWidths, fault, and the reference's Right.
-/
import Derived.Test.YtfehmbcgehflmaaTmW1
namespace Go.Proofs.Ytfehmbcgehflmaa
set_option linter.unusedSimpArgs false
set_option linter.unusedVariables false
open Go.RowKit

/-- A node in memory: six cells. -/
def NdAt (w : World) (b o : Nat) (n : Tm.Nd) : Prop := w.cell? ⟨b, o, none⟩ = some (.int .i64 n.op) ∧ w.cell? ⟨b, o + 1, none⟩ = some (.int .i64 n.w) ∧ w.cell? ⟨b, o + 2, none⟩ = some (.int .u64 n.n) ∧
  w.cell? ⟨b, o + 3, none⟩ = some (.int .i64 n.a) ∧ w.cell? ⟨b, o + 4, none⟩ = some (.int .i64 n.b) ∧ w.cell? ⟨b, o + 5, none⟩ = some (.int .i64 n.c)
theorem NdAt.keep {w w' : World} {b o : Nat} {n : Tm.Nd} (h : NdAt w b o n) (hk : ∀ o, w'.cell? ⟨b, o, none⟩ = w.cell? ⟨b, o, none⟩) : NdAt w' b o n :=
  ⟨(hk _).trans h.1, (hk _).trans h.2.1, (hk _).trans h.2.2.1, (hk _).trans h.2.2.2.1, (hk _).trans h.2.2.2.2.1, (hk _).trans h.2.2.2.2.2⟩
/-- The first nodes of X lie there. -/
structure NdR (w : World) (A : Option Addr) (len cap : Nat) (X : List Tm.Nd) : Prop where
  hle : len ≤ cap
  hcap : cap ≤ maxLen
  hnone : A = none → len = 0
  mem : 0 < len → ∃ b o, A = some ⟨b, o, none⟩ ∧ b < w.heap.size ∧ ∀ i, i < len → NdAt w b (o + i * 6) (X.getD i Tm.z)
theorem NdR.below {w w' : World} {A : Option Addr} {len cap : Nat} {X : List Tm.Nd} (h : NdR w A len cap X) (hb : Below w.heap.size w w') : NdR w' A len cap X :=
  ⟨h.hle, h.hcap, h.hnone, fun h0 => by
    obtain ⟨b, o, e, hlt, hx⟩ := h.mem h0
    exact ⟨b, o, e, Nat.lt_of_lt_of_le hlt hb.size, fun i hi => (hx i hi).keep fun o => hb.cell (p := ⟨b, o, none⟩) hlt⟩⟩

def KwP (n : Tm.Nd) (len : Nat) (X : List Tm.Nd) (w : World) (e : Ending) (w' : World) : Prop :=
  ∃ x y u : Int, e = .returned (.tuple #[.agg #[.int .i64 x, .int .i64 y, .int .i64 u], .bool (Tm.kok n len)]) ∧ (Tm.kok n len = true → x = Tm.w0 n X ∧ y = Tm.w1 n X ∧ u = Tm.w2 n X) ∧ Below w.heap.size w w'

set_option maxRecDepth 20000 in
set_option maxHeartbeats 1000000 in
theorem kw00 (op v n a b c : Int) (A : Option Addr) (len cap : Nat) (w : World) (hk : Tm.kidn op = 0) (hm : len ≤ maxLen) (e0 : (a != 0) = true) :
    Calls Try.prog 34 #[.agg #[.int .i64 op, .int .i64 v, .int .u64 n, .int .i64 a, .int .i64 b, .int .i64 c], .slice A len cap] w fun e w' => e = .returned (.tuple #[.agg #[.int .i64 0, .int .i64 0, .int .i64 0], .bool false]) ∧ Below w.heap.size w w' := by
  unfold maxLen at hm
  have HK := Lib.hid hk
  clear hk
  go_enter Try.func34, Try.ntmps34
  go_wp2_with (go_at_call 12; refine (kids_any _ _).mono ?_; rintro e w' ⟨rfl, rfl⟩; rw [HK.out])
  refine wp_loop_rounds 1 ?_
  rw [rounds_succ]; go_wp2
  refine wp_loop_rounds 4 ?_
  rw [rounds_succ]; go_wp2
  exact bodyPost_ret (v := .tuple #[.agg #[.int .i64 0, .int .i64 0, .int .i64 0], .bool false]) (by simp [results, Try.results34, go_sem]) rfl ⟨rfl, (((Below.refl _ _).alloc (Nat.le_refl _) _).alloc (by simp) _).alloc (by simp; omega) _⟩

set_option maxRecDepth 20000 in
set_option maxHeartbeats 1000000 in
theorem kw01 (op v n a b c : Int) (A : Option Addr) (len cap : Nat) (w : World) (hk : Tm.kidn op = 0) (hm : len ≤ maxLen) (e0 : (a != 0) = false) (e1 : (b != 0) = true) :
    Calls Try.prog 34 #[.agg #[.int .i64 op, .int .i64 v, .int .u64 n, .int .i64 a, .int .i64 b, .int .i64 c], .slice A len cap] w fun e w' => e = .returned (.tuple #[.agg #[.int .i64 0, .int .i64 0, .int .i64 0], .bool false]) ∧ Below w.heap.size w w' := by
  unfold maxLen at hm
  have HK := Lib.hid hk
  clear hk
  go_enter Try.func34, Try.ntmps34
  go_wp2_with (go_at_call 12; refine (kids_any _ _).mono ?_; rintro e w' ⟨rfl, rfl⟩; rw [HK.out])
  refine wp_loop_rounds 1 ?_
  rw [rounds_succ]; go_wp2
  refine wp_loop_rounds 4 ?_
  rw [rounds_succ]; go_wp2
  rw [rounds_succ]; go_wp2
  exact bodyPost_ret (v := .tuple #[.agg #[.int .i64 0, .int .i64 0, .int .i64 0], .bool false]) (by simp [results, Try.results34, go_sem]) rfl ⟨rfl, (((Below.refl _ _).alloc (Nat.le_refl _) _).alloc (by simp) _).alloc (by simp; omega) _⟩

set_option maxRecDepth 20000 in
set_option maxHeartbeats 1000000 in
theorem kw02 (op v n a b c : Int) (A : Option Addr) (len cap : Nat) (w : World) (hk : Tm.kidn op = 0) (hm : len ≤ maxLen) (e0 : (a != 0) = false) (e1 : (b != 0) = false) (e2 : (c != 0) = true) :
    Calls Try.prog 34 #[.agg #[.int .i64 op, .int .i64 v, .int .u64 n, .int .i64 a, .int .i64 b, .int .i64 c], .slice A len cap] w fun e w' => e = .returned (.tuple #[.agg #[.int .i64 0, .int .i64 0, .int .i64 0], .bool false]) ∧ Below w.heap.size w w' := by
  unfold maxLen at hm
  have HK := Lib.hid hk
  clear hk
  go_enter Try.func34, Try.ntmps34
  go_wp2_with (go_at_call 12; refine (kids_any _ _).mono ?_; rintro e w' ⟨rfl, rfl⟩; rw [HK.out])
  refine wp_loop_rounds 1 ?_
  rw [rounds_succ]; go_wp2
  refine wp_loop_rounds 4 ?_
  rw [rounds_succ]; go_wp2
  rw [rounds_succ]; go_wp2
  rw [rounds_succ]; go_wp2
  exact bodyPost_ret (v := .tuple #[.agg #[.int .i64 0, .int .i64 0, .int .i64 0], .bool false]) (by simp [results, Try.results34, go_sem]) rfl ⟨rfl, (((Below.refl _ _).alloc (Nat.le_refl _) _).alloc (by simp) _).alloc (by simp; omega) _⟩

set_option maxRecDepth 20000 in
set_option maxHeartbeats 1000000 in
theorem kw03 (op v n a b c : Int) (A : Option Addr) (len cap : Nat) (w : World) (hk : Tm.kidn op = 0) (hm : len ≤ maxLen) (e0 : (a != 0) = false) (e1 : (b != 0) = false) (e2 : (c != 0) = false) :
    Calls Try.prog 34 #[.agg #[.int .i64 op, .int .i64 v, .int .u64 n, .int .i64 a, .int .i64 b, .int .i64 c], .slice A len cap] w fun e w' => e = .returned (.tuple #[.agg #[.int .i64 0, .int .i64 0, .int .i64 0], .bool true]) ∧ Below w.heap.size w w' := by
  unfold maxLen at hm
  have HK := Lib.hid hk
  clear hk
  go_enter Try.func34, Try.ntmps34
  go_wp2_with (go_at_call 12; refine (kids_any _ _).mono ?_; rintro e w' ⟨rfl, rfl⟩; rw [HK.out])
  refine wp_loop_rounds 1 ?_
  rw [rounds_succ]; go_wp2
  refine wp_loop_rounds 4 ?_
  rw [rounds_succ]; go_wp2
  rw [rounds_succ]; go_wp2
  rw [rounds_succ]; go_wp2
  rw [rounds_succ]; go_wp2
  exact bodyPost_ret (v := .tuple #[.agg #[.int .i64 0, .int .i64 0, .int .i64 0], .bool true]) (by simp [results, Try.results34, go_sem]) rfl ⟨rfl, (((Below.refl _ _).alloc (Nat.le_refl _) _).alloc (by simp) _).alloc (by simp; omega) _⟩

set_option maxRecDepth 20000 in
set_option maxHeartbeats 1000000 in
theorem kw10 (op v n a b c : Int) (A : Option Addr) (len cap : Nat) (w : World) (hk : Tm.kidn op = 1) (hm : len ≤ maxLen) (e0 : a < 0 ∨ (len : Int) ≤ a) :
    Calls Try.prog 34 #[.agg #[.int .i64 op, .int .i64 v, .int .u64 n, .int .i64 a, .int .i64 b, .int .i64 c], .slice A len cap] w fun e w' => e = .returned (.tuple #[.agg #[.int .i64 0, .int .i64 0, .int .i64 0], .bool false]) ∧ Below w.heap.size w w' := by
  unfold maxLen at hm
  have HK := Lib.hid hk
  clear hk
  rcases e0 with e0 | e0
  all_goals
    go_enter Try.func34, Try.ntmps34
    go_wp2_with (go_at_call 12; refine (kids_any _ _).mono ?_; rintro e w' ⟨rfl, rfl⟩; rw [HK.out])
    refine wp_loop_rounds 2 ?_
    rw [rounds_succ]; go_wp2
    exact bodyPost_ret (v := .tuple #[.agg #[.int .i64 0, .int .i64 0, .int .i64 0], .bool false]) (by simp [results, Try.results34, go_sem]) rfl ⟨rfl, (((Below.refl _ _).alloc (Nat.le_refl _) _).alloc (by simp) _).alloc (by simp; omega) _⟩

set_option maxRecDepth 20000 in
set_option maxHeartbeats 1000000 in
theorem kw11 (op v n b c : Int) (g o : Nat) (len cap : Nat) (w : World) (hk : Tm.kidn op = 1) (hm : len ≤ maxLen) (hg : g < w.heap.size) (i0 : Nat) (v0 : Int) (l0 : i0 < len) (q0 : w.cell? ⟨g, o + i0 * 6 + 1, none⟩ = some (.int .i64 v0)) (e1 : (b != 0) = true) :
    Calls Try.prog 34 #[.agg #[.int .i64 op, .int .i64 v, .int .u64 n, .int .i64 (i0 : Nat), .int .i64 b, .int .i64 c], .slice (some ⟨g, o, none⟩) len cap] w fun e w' => e = .returned (.tuple #[.agg #[.int .i64 v0, .int .i64 0, .int .i64 0], .bool false]) ∧ Below w.heap.size w w' := by
  unfold maxLen at hm
  have HK := Lib.hid hk
  clear hk
  have l0' : ¬ (len : Int) ≤ i0 := by omega
  have m1 : g < w.heap.size + 1 := by omega
  have m2 : g < w.heap.size + 1 + 1 := by omega
  go_enter Try.func34, Try.ntmps34
  go_wp2_with (go_at_call 12; refine (kids_any _ _).mono ?_; rintro e w' ⟨rfl, rfl⟩; rw [HK.out])
  refine wp_loop_rounds 2 ?_
  rw [rounds_succ]; go_wp2
  rw [rounds_succ]; go_wp2
  refine wp_loop_rounds 3 ?_
  rw [rounds_succ]; go_wp2
  exact bodyPost_ret (v := .tuple #[.agg #[.int .i64 v0, .int .i64 0, .int .i64 0], .bool false]) (by simp [results, Try.results34, go_sem]) rfl ⟨rfl, (((Below.refl _ _).alloc (Nat.le_refl _) _).alloc (by simp) _).alloc (by simp; omega) _⟩

set_option maxRecDepth 20000 in
set_option maxHeartbeats 1000000 in
theorem kw12 (op v n b c : Int) (g o : Nat) (len cap : Nat) (w : World) (hk : Tm.kidn op = 1) (hm : len ≤ maxLen) (hg : g < w.heap.size) (i0 : Nat) (v0 : Int) (l0 : i0 < len) (q0 : w.cell? ⟨g, o + i0 * 6 + 1, none⟩ = some (.int .i64 v0)) (e1 : (b != 0) = false) (e2 : (c != 0) = true) :
    Calls Try.prog 34 #[.agg #[.int .i64 op, .int .i64 v, .int .u64 n, .int .i64 (i0 : Nat), .int .i64 b, .int .i64 c], .slice (some ⟨g, o, none⟩) len cap] w fun e w' => e = .returned (.tuple #[.agg #[.int .i64 v0, .int .i64 0, .int .i64 0], .bool false]) ∧ Below w.heap.size w w' := by
  unfold maxLen at hm
  have HK := Lib.hid hk
  clear hk
  have l0' : ¬ (len : Int) ≤ i0 := by omega
  have m1 : g < w.heap.size + 1 := by omega
  have m2 : g < w.heap.size + 1 + 1 := by omega
  go_enter Try.func34, Try.ntmps34
  go_wp2_with (go_at_call 12; refine (kids_any _ _).mono ?_; rintro e w' ⟨rfl, rfl⟩; rw [HK.out])
  refine wp_loop_rounds 2 ?_
  rw [rounds_succ]; go_wp2
  rw [rounds_succ]; go_wp2
  refine wp_loop_rounds 3 ?_
  rw [rounds_succ]; go_wp2
  rw [rounds_succ]; go_wp2
  exact bodyPost_ret (v := .tuple #[.agg #[.int .i64 v0, .int .i64 0, .int .i64 0], .bool false]) (by simp [results, Try.results34, go_sem]) rfl ⟨rfl, (((Below.refl _ _).alloc (Nat.le_refl _) _).alloc (by simp) _).alloc (by simp; omega) _⟩

set_option maxRecDepth 20000 in
set_option maxHeartbeats 1000000 in
theorem kw13 (op v n b c : Int) (g o : Nat) (len cap : Nat) (w : World) (hk : Tm.kidn op = 1) (hm : len ≤ maxLen) (hg : g < w.heap.size) (i0 : Nat) (v0 : Int) (l0 : i0 < len) (q0 : w.cell? ⟨g, o + i0 * 6 + 1, none⟩ = some (.int .i64 v0)) (e1 : (b != 0) = false) (e2 : (c != 0) = false) :
    Calls Try.prog 34 #[.agg #[.int .i64 op, .int .i64 v, .int .u64 n, .int .i64 (i0 : Nat), .int .i64 b, .int .i64 c], .slice (some ⟨g, o, none⟩) len cap] w fun e w' => e = .returned (.tuple #[.agg #[.int .i64 v0, .int .i64 0, .int .i64 0], .bool true]) ∧ Below w.heap.size w w' := by
  unfold maxLen at hm
  have HK := Lib.hid hk
  clear hk
  have l0' : ¬ (len : Int) ≤ i0 := by omega
  have m1 : g < w.heap.size + 1 := by omega
  have m2 : g < w.heap.size + 1 + 1 := by omega
  go_enter Try.func34, Try.ntmps34
  go_wp2_with (go_at_call 12; refine (kids_any _ _).mono ?_; rintro e w' ⟨rfl, rfl⟩; rw [HK.out])
  refine wp_loop_rounds 2 ?_
  rw [rounds_succ]; go_wp2
  rw [rounds_succ]; go_wp2
  refine wp_loop_rounds 3 ?_
  rw [rounds_succ]; go_wp2
  rw [rounds_succ]; go_wp2
  rw [rounds_succ]; go_wp2
  exact bodyPost_ret (v := .tuple #[.agg #[.int .i64 v0, .int .i64 0, .int .i64 0], .bool true]) (by simp [results, Try.results34, go_sem]) rfl ⟨rfl, (((Below.refl _ _).alloc (Nat.le_refl _) _).alloc (by simp) _).alloc (by simp; omega) _⟩

set_option maxRecDepth 20000 in
set_option maxHeartbeats 1000000 in
theorem kw20 (op v n a b c : Int) (A : Option Addr) (len cap : Nat) (w : World) (hk : Tm.kidn op = 2) (hm : len ≤ maxLen) (e0 : a < 0 ∨ (len : Int) ≤ a) :
    Calls Try.prog 34 #[.agg #[.int .i64 op, .int .i64 v, .int .u64 n, .int .i64 a, .int .i64 b, .int .i64 c], .slice A len cap] w fun e w' => e = .returned (.tuple #[.agg #[.int .i64 0, .int .i64 0, .int .i64 0], .bool false]) ∧ Below w.heap.size w w' := by
  unfold maxLen at hm
  have HK := Lib.hid hk
  clear hk
  rcases e0 with e0 | e0
  all_goals
    go_enter Try.func34, Try.ntmps34
    go_wp2_with (go_at_call 12; refine (kids_any _ _).mono ?_; rintro e w' ⟨rfl, rfl⟩; rw [HK.out])
    refine wp_loop_rounds 3 ?_
    rw [rounds_succ]; go_wp2
    exact bodyPost_ret (v := .tuple #[.agg #[.int .i64 0, .int .i64 0, .int .i64 0], .bool false]) (by simp [results, Try.results34, go_sem]) rfl ⟨rfl, (((Below.refl _ _).alloc (Nat.le_refl _) _).alloc (by simp) _).alloc (by simp; omega) _⟩

set_option maxRecDepth 20000 in
set_option maxHeartbeats 1000000 in
theorem kw21 (op v n b c : Int) (g o : Nat) (len cap : Nat) (w : World) (hk : Tm.kidn op = 2) (hm : len ≤ maxLen) (hg : g < w.heap.size) (i0 : Nat) (v0 : Int) (l0 : i0 < len) (q0 : w.cell? ⟨g, o + i0 * 6 + 1, none⟩ = some (.int .i64 v0)) (e1 : b < 0 ∨ (len : Int) ≤ b) :
    Calls Try.prog 34 #[.agg #[.int .i64 op, .int .i64 v, .int .u64 n, .int .i64 (i0 : Nat), .int .i64 b, .int .i64 c], .slice (some ⟨g, o, none⟩) len cap] w fun e w' => e = .returned (.tuple #[.agg #[.int .i64 v0, .int .i64 0, .int .i64 0], .bool false]) ∧ Below w.heap.size w w' := by
  unfold maxLen at hm
  have HK := Lib.hid hk
  clear hk
  have l0' : ¬ (len : Int) ≤ i0 := by omega
  have m1 : g < w.heap.size + 1 := by omega
  have m2 : g < w.heap.size + 1 + 1 := by omega
  rcases e1 with e1 | e1
  all_goals
    go_enter Try.func34, Try.ntmps34
    go_wp2_with (go_at_call 12; refine (kids_any _ _).mono ?_; rintro e w' ⟨rfl, rfl⟩; rw [HK.out])
    refine wp_loop_rounds 3 ?_
    rw [rounds_succ]; go_wp2
    rw [rounds_succ]; go_wp2
    exact bodyPost_ret (v := .tuple #[.agg #[.int .i64 v0, .int .i64 0, .int .i64 0], .bool false]) (by simp [results, Try.results34, go_sem]) rfl ⟨rfl, (((Below.refl _ _).alloc (Nat.le_refl _) _).alloc (by simp) _).alloc (by simp; omega) _⟩

set_option maxRecDepth 20000 in
set_option maxHeartbeats 1000000 in
theorem kw22 (op v n c : Int) (g o : Nat) (len cap : Nat) (w : World) (hk : Tm.kidn op = 2) (hm : len ≤ maxLen) (hg : g < w.heap.size) (i0 : Nat) (v0 : Int) (l0 : i0 < len) (q0 : w.cell? ⟨g, o + i0 * 6 + 1, none⟩ = some (.int .i64 v0)) (i1 : Nat) (v1 : Int) (l1 : i1 < len) (q1 : w.cell? ⟨g, o + i1 * 6 + 1, none⟩ = some (.int .i64 v1)) (e2 : (c != 0) = true) :
    Calls Try.prog 34 #[.agg #[.int .i64 op, .int .i64 v, .int .u64 n, .int .i64 (i0 : Nat), .int .i64 (i1 : Nat), .int .i64 c], .slice (some ⟨g, o, none⟩) len cap] w fun e w' => e = .returned (.tuple #[.agg #[.int .i64 v0, .int .i64 v1, .int .i64 0], .bool false]) ∧ Below w.heap.size w w' := by
  unfold maxLen at hm
  have HK := Lib.hid hk
  clear hk
  have l0' : ¬ (len : Int) ≤ i0 := by omega
  have l1' : ¬ (len : Int) ≤ i1 := by omega
  have m1 : g < w.heap.size + 1 := by omega
  have m2 : g < w.heap.size + 1 + 1 := by omega
  go_enter Try.func34, Try.ntmps34
  go_wp2_with (go_at_call 12; refine (kids_any _ _).mono ?_; rintro e w' ⟨rfl, rfl⟩; rw [HK.out])
  refine wp_loop_rounds 3 ?_
  rw [rounds_succ]; go_wp2
  rw [rounds_succ]; go_wp2
  rw [rounds_succ]; go_wp2
  refine wp_loop_rounds 2 ?_
  rw [rounds_succ]; go_wp2
  exact bodyPost_ret (v := .tuple #[.agg #[.int .i64 v0, .int .i64 v1, .int .i64 0], .bool false]) (by simp [results, Try.results34, go_sem]) rfl ⟨rfl, (((Below.refl _ _).alloc (Nat.le_refl _) _).alloc (by simp) _).alloc (by simp; omega) _⟩

set_option maxRecDepth 20000 in
set_option maxHeartbeats 1000000 in
theorem kw23 (op v n c : Int) (g o : Nat) (len cap : Nat) (w : World) (hk : Tm.kidn op = 2) (hm : len ≤ maxLen) (hg : g < w.heap.size) (i0 : Nat) (v0 : Int) (l0 : i0 < len) (q0 : w.cell? ⟨g, o + i0 * 6 + 1, none⟩ = some (.int .i64 v0)) (i1 : Nat) (v1 : Int) (l1 : i1 < len) (q1 : w.cell? ⟨g, o + i1 * 6 + 1, none⟩ = some (.int .i64 v1)) (e2 : (c != 0) = false) :
    Calls Try.prog 34 #[.agg #[.int .i64 op, .int .i64 v, .int .u64 n, .int .i64 (i0 : Nat), .int .i64 (i1 : Nat), .int .i64 c], .slice (some ⟨g, o, none⟩) len cap] w fun e w' => e = .returned (.tuple #[.agg #[.int .i64 v0, .int .i64 v1, .int .i64 0], .bool true]) ∧ Below w.heap.size w w' := by
  unfold maxLen at hm
  have HK := Lib.hid hk
  clear hk
  have l0' : ¬ (len : Int) ≤ i0 := by omega
  have l1' : ¬ (len : Int) ≤ i1 := by omega
  have m1 : g < w.heap.size + 1 := by omega
  have m2 : g < w.heap.size + 1 + 1 := by omega
  go_enter Try.func34, Try.ntmps34
  go_wp2_with (go_at_call 12; refine (kids_any _ _).mono ?_; rintro e w' ⟨rfl, rfl⟩; rw [HK.out])
  refine wp_loop_rounds 3 ?_
  rw [rounds_succ]; go_wp2
  rw [rounds_succ]; go_wp2
  rw [rounds_succ]; go_wp2
  refine wp_loop_rounds 2 ?_
  rw [rounds_succ]; go_wp2
  rw [rounds_succ]; go_wp2
  exact bodyPost_ret (v := .tuple #[.agg #[.int .i64 v0, .int .i64 v1, .int .i64 0], .bool true]) (by simp [results, Try.results34, go_sem]) rfl ⟨rfl, (((Below.refl _ _).alloc (Nat.le_refl _) _).alloc (by simp) _).alloc (by simp; omega) _⟩

set_option maxRecDepth 20000 in
set_option maxHeartbeats 1000000 in
theorem kw30 (op v n a b c : Int) (A : Option Addr) (len cap : Nat) (w : World) (hk : Tm.kidn op = 3) (hm : len ≤ maxLen) (e0 : a < 0 ∨ (len : Int) ≤ a) :
    Calls Try.prog 34 #[.agg #[.int .i64 op, .int .i64 v, .int .u64 n, .int .i64 a, .int .i64 b, .int .i64 c], .slice A len cap] w fun e w' => e = .returned (.tuple #[.agg #[.int .i64 0, .int .i64 0, .int .i64 0], .bool false]) ∧ Below w.heap.size w w' := by
  unfold maxLen at hm
  have HK := Lib.hid hk
  clear hk
  rcases e0 with e0 | e0
  all_goals
    go_enter Try.func34, Try.ntmps34
    go_wp2_with (go_at_call 12; refine (kids_any _ _).mono ?_; rintro e w' ⟨rfl, rfl⟩; rw [HK.out])
    refine wp_loop_rounds 4 ?_
    rw [rounds_succ]; go_wp2
    exact bodyPost_ret (v := .tuple #[.agg #[.int .i64 0, .int .i64 0, .int .i64 0], .bool false]) (by simp [results, Try.results34, go_sem]) rfl ⟨rfl, (((Below.refl _ _).alloc (Nat.le_refl _) _).alloc (by simp) _).alloc (by simp; omega) _⟩

set_option maxRecDepth 20000 in
set_option maxHeartbeats 1000000 in
theorem kw31 (op v n b c : Int) (g o : Nat) (len cap : Nat) (w : World) (hk : Tm.kidn op = 3) (hm : len ≤ maxLen) (hg : g < w.heap.size) (i0 : Nat) (v0 : Int) (l0 : i0 < len) (q0 : w.cell? ⟨g, o + i0 * 6 + 1, none⟩ = some (.int .i64 v0)) (e1 : b < 0 ∨ (len : Int) ≤ b) :
    Calls Try.prog 34 #[.agg #[.int .i64 op, .int .i64 v, .int .u64 n, .int .i64 (i0 : Nat), .int .i64 b, .int .i64 c], .slice (some ⟨g, o, none⟩) len cap] w fun e w' => e = .returned (.tuple #[.agg #[.int .i64 v0, .int .i64 0, .int .i64 0], .bool false]) ∧ Below w.heap.size w w' := by
  unfold maxLen at hm
  have HK := Lib.hid hk
  clear hk
  have l0' : ¬ (len : Int) ≤ i0 := by omega
  have m1 : g < w.heap.size + 1 := by omega
  have m2 : g < w.heap.size + 1 + 1 := by omega
  rcases e1 with e1 | e1
  all_goals
    go_enter Try.func34, Try.ntmps34
    go_wp2_with (go_at_call 12; refine (kids_any _ _).mono ?_; rintro e w' ⟨rfl, rfl⟩; rw [HK.out])
    refine wp_loop_rounds 4 ?_
    rw [rounds_succ]; go_wp2
    rw [rounds_succ]; go_wp2
    exact bodyPost_ret (v := .tuple #[.agg #[.int .i64 v0, .int .i64 0, .int .i64 0], .bool false]) (by simp [results, Try.results34, go_sem]) rfl ⟨rfl, (((Below.refl _ _).alloc (Nat.le_refl _) _).alloc (by simp) _).alloc (by simp; omega) _⟩

set_option maxRecDepth 20000 in
set_option maxHeartbeats 1000000 in
theorem kw32 (op v n c : Int) (g o : Nat) (len cap : Nat) (w : World) (hk : Tm.kidn op = 3) (hm : len ≤ maxLen) (hg : g < w.heap.size) (i0 : Nat) (v0 : Int) (l0 : i0 < len) (q0 : w.cell? ⟨g, o + i0 * 6 + 1, none⟩ = some (.int .i64 v0)) (i1 : Nat) (v1 : Int) (l1 : i1 < len) (q1 : w.cell? ⟨g, o + i1 * 6 + 1, none⟩ = some (.int .i64 v1)) (e2 : c < 0 ∨ (len : Int) ≤ c) :
    Calls Try.prog 34 #[.agg #[.int .i64 op, .int .i64 v, .int .u64 n, .int .i64 (i0 : Nat), .int .i64 (i1 : Nat), .int .i64 c], .slice (some ⟨g, o, none⟩) len cap] w fun e w' => e = .returned (.tuple #[.agg #[.int .i64 v0, .int .i64 v1, .int .i64 0], .bool false]) ∧ Below w.heap.size w w' := by
  unfold maxLen at hm
  have HK := Lib.hid hk
  clear hk
  have l0' : ¬ (len : Int) ≤ i0 := by omega
  have l1' : ¬ (len : Int) ≤ i1 := by omega
  have m1 : g < w.heap.size + 1 := by omega
  have m2 : g < w.heap.size + 1 + 1 := by omega
  rcases e2 with e2 | e2
  all_goals
    go_enter Try.func34, Try.ntmps34
    go_wp2_with (go_at_call 12; refine (kids_any _ _).mono ?_; rintro e w' ⟨rfl, rfl⟩; rw [HK.out])
    refine wp_loop_rounds 4 ?_
    rw [rounds_succ]; go_wp2
    rw [rounds_succ]; go_wp2
    rw [rounds_succ]; go_wp2
    exact bodyPost_ret (v := .tuple #[.agg #[.int .i64 v0, .int .i64 v1, .int .i64 0], .bool false]) (by simp [results, Try.results34, go_sem]) rfl ⟨rfl, (((Below.refl _ _).alloc (Nat.le_refl _) _).alloc (by simp) _).alloc (by simp; omega) _⟩

set_option maxRecDepth 20000 in
set_option maxHeartbeats 1000000 in
theorem kw33 (op v n : Int) (g o : Nat) (len cap : Nat) (w : World) (hk : Tm.kidn op = 3) (hm : len ≤ maxLen) (hg : g < w.heap.size) (i0 : Nat) (v0 : Int) (l0 : i0 < len) (q0 : w.cell? ⟨g, o + i0 * 6 + 1, none⟩ = some (.int .i64 v0)) (i1 : Nat) (v1 : Int) (l1 : i1 < len) (q1 : w.cell? ⟨g, o + i1 * 6 + 1, none⟩ = some (.int .i64 v1)) (i2 : Nat) (v2 : Int) (l2 : i2 < len) (q2 : w.cell? ⟨g, o + i2 * 6 + 1, none⟩ = some (.int .i64 v2)) :
    Calls Try.prog 34 #[.agg #[.int .i64 op, .int .i64 v, .int .u64 n, .int .i64 (i0 : Nat), .int .i64 (i1 : Nat), .int .i64 (i2 : Nat)], .slice (some ⟨g, o, none⟩) len cap] w fun e w' => e = .returned (.tuple #[.agg #[.int .i64 v0, .int .i64 v1, .int .i64 v2], .bool true]) ∧ Below w.heap.size w w' := by
  unfold maxLen at hm
  have HK := Lib.hid hk
  clear hk
  have l0' : ¬ (len : Int) ≤ i0 := by omega
  have l1' : ¬ (len : Int) ≤ i1 := by omega
  have l2' : ¬ (len : Int) ≤ i2 := by omega
  have m1 : g < w.heap.size + 1 := by omega
  have m2 : g < w.heap.size + 1 + 1 := by omega
  go_enter Try.func34, Try.ntmps34
  go_wp2_with (go_at_call 12; refine (kids_any _ _).mono ?_; rintro e w' ⟨rfl, rfl⟩; rw [HK.out])
  refine wp_loop_rounds 4 ?_
  rw [rounds_succ]; go_wp2
  rw [rounds_succ]; go_wp2
  rw [rounds_succ]; go_wp2
  rw [rounds_succ]; go_wp2
  refine wp_loop_rounds 1 ?_
  rw [rounds_succ]; go_wp2
  exact bodyPost_ret (v := .tuple #[.agg #[.int .i64 v0, .int .i64 v1, .int .i64 v2], .bool true]) (by simp [results, Try.results34, go_sem]) rfl ⟨rfl, (((Below.refl _ _).alloc (Nat.le_refl _) _).alloc (by simp) _).alloc (by simp; omega) _⟩

end Go.Proofs.Ytfehmbcgehflmaa
