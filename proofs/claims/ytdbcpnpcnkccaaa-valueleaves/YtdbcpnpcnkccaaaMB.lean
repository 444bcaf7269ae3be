/-
  Contracts of layer 6's small functions: Kids, alike, numberIsRight, widthIsRight; and of the reference's: Kids, width, most.
  Nodes in memory; contracts of kidWidths, fault, and the reference's Right.
  Contracts of kidWidths, fault, and the reference's Right.
-/
import Derived.Test.YtdbcpnpcnkccaaaRows
import Derived.Test.YtdbcpnpcnkccaaaMA
import Derived.WalkKit
import Derived.WalkSpells
import Derived.WalkLawsBesides
import Derived.Lib.Hide
import Derived.Deep.QuietTactic
import Derived.BigQuiet
import Derived.StillTailTactics
set_option linter.unusedSimpArgs false
set_option linter.unusedVariables false
namespace Go.Proofs.Ytdbcpnpcnkccaaa
open Go.RowKit

theorem ret_int {k : IntKind} {a b : Int} (h : a = b) : Ending.returned (.int k a) = .returned (.int k b) := by rw [h]
theorem ret_bool {a b : Bool} (h : a = b) : Ending.returned (.bool a) = .returned (.bool b) := by rw [h]
theorem Below.box (w : World) (o : Obj) : Below w.heap.size w (w.alloc o) := (Below.refl _ _).alloc (Nat.le_refl _) _
theorem cells_below {n : Nat} {w w' : World} (hb : Below n w w') {b o : Nat} {v : Value} (h : w.cell? ⟨b, o, none⟩ = some v) (hn : b < n) : w'.cell? ⟨b, o, none⟩ = some v :=
  (hb.cell (p := ⟨b, o, none⟩) hn).trans h

set_option maxHeartbeats 400000 in
theorem kids_any (op : Int) (w : World) :
    Calls Try.prog 73 #[.int .i64 op] w fun e w' => e = .returned (.int .i64 (Tm.kidn op : Nat)) ∧ w = w' := by
  go_enter Try.func73, Try.ntmps73
  go_wp2
  all_goals
    go_ret
    refine ⟨ret_int ?_, rfl⟩
    have hk := Tm.kidn_spec op
    generalize Tm.kidn op = k at *
    first | omega | (simp_all; done) | (simp_all; omega)

set_option maxHeartbeats 400000 in
theorem rkids_any (op : Int) (w : World) :
    Calls Try.prog 20 #[.int .i64 op] w fun e w' => e = .returned (.int .i64 (Tm.kidn op : Nat)) ∧ w = w' := by
  go_enter Try.func20, Try.ntmps20
  go_wp2
  all_goals
    go_ret
    refine ⟨ret_int ?_, rfl⟩
    have hk := Tm.kidn_spec op
    generalize Tm.kidn op = k at *
    first | omega | (simp_all; done) | (simp_all; omega)

set_option maxHeartbeats 400000 in
theorem alike_any (x y : Int) (w : World) :
    Calls Try.prog 110 #[.int .i64 x, .int .i64 y] w fun e w' => e = .returned (.bool (Tm.alike x y)) ∧ w = w' := by
  go_enter Try.func110, Try.ntmps110
  go_wp2
  all_goals
    go_ret
    refine ⟨ret_bool ?_, rfl⟩
    simp_all [Tm.alike]

set_option maxRecDepth 20000 in
set_option maxHeartbeats 1000000 in
theorem number_any (op v n a b c : Int) (w : World) (h0 : 0 ≤ n) (h1 : n < 18446744073709551616) (hw : op = 0 → v = 1 ∨ v = 8 ∨ v = 64) :
    Calls Try.prog 76 #[.agg #[.int .i64 op, .int .i64 v, .int .u64 n, .int .i64 a, .int .i64 b, .int .i64 c]] w fun e w' => e = .returned (.bool (Tm.nok op v n)) ∧ Below w.heap.size w w' := by
  by_cases ho : op = 0
  · rcases hw ho with rfl | rfl | rfl
    all_goals
      subst ho
      go_enter Try.func76, Try.ntmps76
      go_wp2
      all_goals
        go_ret
        refine ⟨ret_bool ?_, Below.box _ _⟩
        simp_all [Tm.nok]
        try (first | omega | (rw [Bool.eq_iff_iff]; simp; omega))
  · clear hw
    go_enter Try.func76, Try.ntmps76
    go_wp2
    all_goals
      go_ret
      refine ⟨ret_bool ?_, Below.box _ _⟩
      simp_all [Tm.nok]

set_option maxRecDepth 20000 in
set_option maxHeartbeats 2000000 in
theorem width_any (op v n a b c x y u : Int) (w : World) :
    Calls Try.prog 75 #[.agg #[.int .i64 op, .int .i64 v, .int .u64 n, .int .i64 a, .int .i64 b, .int .i64 c], .agg #[.int .i64 x, .int .i64 y, .int .i64 u]] w fun e w' => e = .returned (.bool (Tm.wok op v x y u)) ∧ Below w.heap.size w w' := by
  go_enter Try.func75, Try.ntmps75
  go_wp2_with (go_at_call 110; refine (alike_any _ _ _).mono ?_; rintro e w' ⟨rfl, rfl⟩)
  all_goals
    go_ret
    refine ⟨ret_bool ?_, (Below.box _ _).trans ((Below.box _ _).mono (by simp))⟩
    simp_all [Tm.wok]

set_option maxRecDepth 20000 in
set_option maxHeartbeats 2000000 in
theorem rwidth_any (op v n a b c x y u : Int) (w : World) :
    Calls Try.prog 66 #[.agg #[.int .i64 op, .int .i64 v, .int .u64 n, .int .i64 a, .int .i64 b, .int .i64 c], .int .i64 x, .int .i64 y, .int .i64 u] w fun e w' => e = .returned (.int .i64 (Tm.rwid op v x y u)) ∧ Below w.heap.size w w' := by
  go_enter Try.func66, Try.ntmps66
  go_wp2
  all_goals
    go_ret
    refine ⟨ret_int ?_, Below.box _ _⟩
    simp_all [Tm.rwid]

set_option maxRecDepth 20000 in
set_option maxHeartbeats 2000000 in
theorem most_any (op v n a b c : Int) (w : World) :
    Calls Try.prog 67 #[.agg #[.int .i64 op, .int .i64 v, .int .u64 n, .int .i64 a, .int .i64 b, .int .i64 c]] w fun e w' => e = .returned (.int .u64 (Tm.mst op v)) ∧ Below w.heap.size w w' := by
  go_enter Try.func67, Try.ntmps67
  go_wp2
  all_goals
    go_ret
    refine ⟨ret_int ?_, Below.box _ _⟩
    simp_all [Tm.mst]
end Go.Proofs.Ytdbcpnpcnkccaaa
namespace Go.Proofs.Ytdbcpnpcnkccaaa
open Go.RowKit

/-- A node in memory: six cells. -/
def NdAt (w : World) (b o : Nat) (n : Tm.Nd) : Prop := w.cell? ⟨b, o, none⟩ = some (.int .i64 n.op) ∧ w.cell? ⟨b, o + 1, none⟩ = some (.int .i64 n.w) ∧ w.cell? ⟨b, o + 2, none⟩ = some (.int .u64 n.n) ∧
  w.cell? ⟨b, o + 3, none⟩ = some (.int .i64 n.a) ∧ w.cell? ⟨b, o + 4, none⟩ = some (.int .i64 n.b) ∧ w.cell? ⟨b, o + 5, none⟩ = some (.int .i64 n.c)
theorem NdAt.keep {w w' : World} {b o : Nat} {n : Tm.Nd} (h : NdAt w b o n) (hk : ∀ o, w'.cell? ⟨b, o, none⟩ = w.cell? ⟨b, o, none⟩) : NdAt w' b o n :=
  ⟨(hk _).trans h.1, (hk _).trans h.2.1, (hk _).trans h.2.2.1, (hk _).trans h.2.2.2.1, (hk _).trans h.2.2.2.2.1, (hk _).trans h.2.2.2.2.2⟩
/-- The first nodes of X lie there. -/
structure NdR (w : World) (A : Option Addr) (len cap : Nat) (X : List Tm.Nd) : Prop where
  hle : len ≤ cap
  hcap : cap ≤ maxLen
  hnone : A = none → len = 0
  mem : 0 < len → ∃ b o, A = some ⟨b, o, none⟩ ∧ b < w.heap.size ∧ ∀ i, i < len → NdAt w b (o + i * 6) (X.getD i Tm.z)
theorem NdR.below {w w' : World} {A : Option Addr} {len cap : Nat} {X : List Tm.Nd} (h : NdR w A len cap X) (hb : Below w.heap.size w w') : NdR w' A len cap X :=
  ⟨h.hle, h.hcap, h.hnone, fun h0 => by
    obtain ⟨b, o, e, hlt, hx⟩ := h.mem h0
    exact ⟨b, o, e, Nat.lt_of_lt_of_le hlt hb.size, fun i hi => (hx i hi).keep fun o => hb.cell (p := ⟨b, o, none⟩) hlt⟩⟩

def KwP (n : Tm.Nd) (len : Nat) (X : List Tm.Nd) (w : World) (e : Ending) (w' : World) : Prop :=
  ∃ x y u : Int, e = .returned (.tuple #[.agg #[.int .i64 x, .int .i64 y, .int .i64 u], .bool (Tm.kok n len)]) ∧ (Tm.kok n len = true → x = Tm.w0 n X ∧ y = Tm.w1 n X ∧ u = Tm.w2 n X) ∧ Below w.heap.size w w'

set_option maxRecDepth 20000 in
set_option maxHeartbeats 1000000 in
theorem kw00 (op v n a b c : Int) (A : Option Addr) (len cap : Nat) (w : World) (hk : Tm.kidn op = 0) (hm : len ≤ maxLen) (e0 : (a != 0) = true) :
    Calls Try.prog 74 #[.agg #[.int .i64 op, .int .i64 v, .int .u64 n, .int .i64 a, .int .i64 b, .int .i64 c], .slice A len cap] w fun e w' => e = .returned (.tuple #[.agg #[.int .i64 0, .int .i64 0, .int .i64 0], .bool false]) ∧ Below w.heap.size w w' := by
  unfold maxLen at hm
  have HK := Lib.hid hk
  clear hk
  go_enter Try.func74, Try.ntmps74
  go_wp2_with (go_at_call 73; refine (kids_any _ _).mono ?_; rintro e w' ⟨rfl, rfl⟩; rw [HK.out])
  refine wp_loop_rounds 1 ?_
  rw [rounds_succ]; go_wp2
  refine wp_loop_rounds 4 ?_
  rw [rounds_succ]; go_wp2
  exact bodyPost_ret (v := .tuple #[.agg #[.int .i64 0, .int .i64 0, .int .i64 0], .bool false]) (by simp [results, Try.results74, go_sem]) rfl ⟨rfl, (((Below.refl _ _).alloc (Nat.le_refl _) _).alloc (by simp) _).alloc (by simp; omega) _⟩

set_option maxRecDepth 20000 in
set_option maxHeartbeats 1000000 in
theorem kw01 (op v n a b c : Int) (A : Option Addr) (len cap : Nat) (w : World) (hk : Tm.kidn op = 0) (hm : len ≤ maxLen) (e0 : (a != 0) = false) (e1 : (b != 0) = true) :
    Calls Try.prog 74 #[.agg #[.int .i64 op, .int .i64 v, .int .u64 n, .int .i64 a, .int .i64 b, .int .i64 c], .slice A len cap] w fun e w' => e = .returned (.tuple #[.agg #[.int .i64 0, .int .i64 0, .int .i64 0], .bool false]) ∧ Below w.heap.size w w' := by
  unfold maxLen at hm
  have HK := Lib.hid hk
  clear hk
  go_enter Try.func74, Try.ntmps74
  go_wp2_with (go_at_call 73; refine (kids_any _ _).mono ?_; rintro e w' ⟨rfl, rfl⟩; rw [HK.out])
  refine wp_loop_rounds 1 ?_
  rw [rounds_succ]; go_wp2
  refine wp_loop_rounds 4 ?_
  rw [rounds_succ]; go_wp2
  rw [rounds_succ]; go_wp2
  exact bodyPost_ret (v := .tuple #[.agg #[.int .i64 0, .int .i64 0, .int .i64 0], .bool false]) (by simp [results, Try.results74, go_sem]) rfl ⟨rfl, (((Below.refl _ _).alloc (Nat.le_refl _) _).alloc (by simp) _).alloc (by simp; omega) _⟩

set_option maxRecDepth 20000 in
set_option maxHeartbeats 1000000 in
theorem kw02 (op v n a b c : Int) (A : Option Addr) (len cap : Nat) (w : World) (hk : Tm.kidn op = 0) (hm : len ≤ maxLen) (e0 : (a != 0) = false) (e1 : (b != 0) = false) (e2 : (c != 0) = true) :
    Calls Try.prog 74 #[.agg #[.int .i64 op, .int .i64 v, .int .u64 n, .int .i64 a, .int .i64 b, .int .i64 c], .slice A len cap] w fun e w' => e = .returned (.tuple #[.agg #[.int .i64 0, .int .i64 0, .int .i64 0], .bool false]) ∧ Below w.heap.size w w' := by
  unfold maxLen at hm
  have HK := Lib.hid hk
  clear hk
  go_enter Try.func74, Try.ntmps74
  go_wp2_with (go_at_call 73; refine (kids_any _ _).mono ?_; rintro e w' ⟨rfl, rfl⟩; rw [HK.out])
  refine wp_loop_rounds 1 ?_
  rw [rounds_succ]; go_wp2
  refine wp_loop_rounds 4 ?_
  rw [rounds_succ]; go_wp2
  rw [rounds_succ]; go_wp2
  rw [rounds_succ]; go_wp2
  exact bodyPost_ret (v := .tuple #[.agg #[.int .i64 0, .int .i64 0, .int .i64 0], .bool false]) (by simp [results, Try.results74, go_sem]) rfl ⟨rfl, (((Below.refl _ _).alloc (Nat.le_refl _) _).alloc (by simp) _).alloc (by simp; omega) _⟩

set_option maxRecDepth 20000 in
set_option maxHeartbeats 1000000 in
theorem kw03 (op v n a b c : Int) (A : Option Addr) (len cap : Nat) (w : World) (hk : Tm.kidn op = 0) (hm : len ≤ maxLen) (e0 : (a != 0) = false) (e1 : (b != 0) = false) (e2 : (c != 0) = false) :
    Calls Try.prog 74 #[.agg #[.int .i64 op, .int .i64 v, .int .u64 n, .int .i64 a, .int .i64 b, .int .i64 c], .slice A len cap] w fun e w' => e = .returned (.tuple #[.agg #[.int .i64 0, .int .i64 0, .int .i64 0], .bool true]) ∧ Below w.heap.size w w' := by
  unfold maxLen at hm
  have HK := Lib.hid hk
  clear hk
  go_enter Try.func74, Try.ntmps74
  go_wp2_with (go_at_call 73; refine (kids_any _ _).mono ?_; rintro e w' ⟨rfl, rfl⟩; rw [HK.out])
  refine wp_loop_rounds 1 ?_
  rw [rounds_succ]; go_wp2
  refine wp_loop_rounds 4 ?_
  rw [rounds_succ]; go_wp2
  rw [rounds_succ]; go_wp2
  rw [rounds_succ]; go_wp2
  rw [rounds_succ]; go_wp2
  exact bodyPost_ret (v := .tuple #[.agg #[.int .i64 0, .int .i64 0, .int .i64 0], .bool true]) (by simp [results, Try.results74, go_sem]) rfl ⟨rfl, (((Below.refl _ _).alloc (Nat.le_refl _) _).alloc (by simp) _).alloc (by simp; omega) _⟩

set_option maxRecDepth 20000 in
set_option maxHeartbeats 1000000 in
theorem kw10 (op v n a b c : Int) (A : Option Addr) (len cap : Nat) (w : World) (hk : Tm.kidn op = 1) (hm : len ≤ maxLen) (e0 : a < 0 ∨ (len : Int) ≤ a) :
    Calls Try.prog 74 #[.agg #[.int .i64 op, .int .i64 v, .int .u64 n, .int .i64 a, .int .i64 b, .int .i64 c], .slice A len cap] w fun e w' => e = .returned (.tuple #[.agg #[.int .i64 0, .int .i64 0, .int .i64 0], .bool false]) ∧ Below w.heap.size w w' := by
  unfold maxLen at hm
  have HK := Lib.hid hk
  clear hk
  rcases e0 with e0 | e0
  all_goals
    go_enter Try.func74, Try.ntmps74
    go_wp2_with (go_at_call 73; refine (kids_any _ _).mono ?_; rintro e w' ⟨rfl, rfl⟩; rw [HK.out])
    refine wp_loop_rounds 2 ?_
    rw [rounds_succ]; go_wp2
    exact bodyPost_ret (v := .tuple #[.agg #[.int .i64 0, .int .i64 0, .int .i64 0], .bool false]) (by simp [results, Try.results74, go_sem]) rfl ⟨rfl, (((Below.refl _ _).alloc (Nat.le_refl _) _).alloc (by simp) _).alloc (by simp; omega) _⟩

set_option maxRecDepth 20000 in
set_option maxHeartbeats 1000000 in
theorem kw11 (op v n b c : Int) (g o : Nat) (len cap : Nat) (w : World) (hk : Tm.kidn op = 1) (hm : len ≤ maxLen) (hg : g < w.heap.size) (i0 : Nat) (v0 : Int) (l0 : i0 < len) (q0 : w.cell? ⟨g, o + i0 * 6 + 1, none⟩ = some (.int .i64 v0)) (e1 : (b != 0) = true) :
    Calls Try.prog 74 #[.agg #[.int .i64 op, .int .i64 v, .int .u64 n, .int .i64 (i0 : Nat), .int .i64 b, .int .i64 c], .slice (some ⟨g, o, none⟩) len cap] w fun e w' => e = .returned (.tuple #[.agg #[.int .i64 v0, .int .i64 0, .int .i64 0], .bool false]) ∧ Below w.heap.size w w' := by
  unfold maxLen at hm
  have HK := Lib.hid hk
  clear hk
  have l0' : ¬ (len : Int) ≤ i0 := by omega
  have m1 : g < w.heap.size + 1 := by omega
  have m2 : g < w.heap.size + 1 + 1 := by omega
  go_enter Try.func74, Try.ntmps74
  go_wp2_with (go_at_call 73; refine (kids_any _ _).mono ?_; rintro e w' ⟨rfl, rfl⟩; rw [HK.out])
  refine wp_loop_rounds 2 ?_
  rw [rounds_succ]; go_wp2
  rw [rounds_succ]; go_wp2
  refine wp_loop_rounds 3 ?_
  rw [rounds_succ]; go_wp2
  exact bodyPost_ret (v := .tuple #[.agg #[.int .i64 v0, .int .i64 0, .int .i64 0], .bool false]) (by simp [results, Try.results74, go_sem]) rfl ⟨rfl, (((Below.refl _ _).alloc (Nat.le_refl _) _).alloc (by simp) _).alloc (by simp; omega) _⟩

set_option maxRecDepth 20000 in
set_option maxHeartbeats 1000000 in
theorem kw12 (op v n b c : Int) (g o : Nat) (len cap : Nat) (w : World) (hk : Tm.kidn op = 1) (hm : len ≤ maxLen) (hg : g < w.heap.size) (i0 : Nat) (v0 : Int) (l0 : i0 < len) (q0 : w.cell? ⟨g, o + i0 * 6 + 1, none⟩ = some (.int .i64 v0)) (e1 : (b != 0) = false) (e2 : (c != 0) = true) :
    Calls Try.prog 74 #[.agg #[.int .i64 op, .int .i64 v, .int .u64 n, .int .i64 (i0 : Nat), .int .i64 b, .int .i64 c], .slice (some ⟨g, o, none⟩) len cap] w fun e w' => e = .returned (.tuple #[.agg #[.int .i64 v0, .int .i64 0, .int .i64 0], .bool false]) ∧ Below w.heap.size w w' := by
  unfold maxLen at hm
  have HK := Lib.hid hk
  clear hk
  have l0' : ¬ (len : Int) ≤ i0 := by omega
  have m1 : g < w.heap.size + 1 := by omega
  have m2 : g < w.heap.size + 1 + 1 := by omega
  go_enter Try.func74, Try.ntmps74
  go_wp2_with (go_at_call 73; refine (kids_any _ _).mono ?_; rintro e w' ⟨rfl, rfl⟩; rw [HK.out])
  refine wp_loop_rounds 2 ?_
  rw [rounds_succ]; go_wp2
  rw [rounds_succ]; go_wp2
  refine wp_loop_rounds 3 ?_
  rw [rounds_succ]; go_wp2
  rw [rounds_succ]; go_wp2
  exact bodyPost_ret (v := .tuple #[.agg #[.int .i64 v0, .int .i64 0, .int .i64 0], .bool false]) (by simp [results, Try.results74, go_sem]) rfl ⟨rfl, (((Below.refl _ _).alloc (Nat.le_refl _) _).alloc (by simp) _).alloc (by simp; omega) _⟩

set_option maxRecDepth 20000 in
set_option maxHeartbeats 1000000 in
theorem kw13 (op v n b c : Int) (g o : Nat) (len cap : Nat) (w : World) (hk : Tm.kidn op = 1) (hm : len ≤ maxLen) (hg : g < w.heap.size) (i0 : Nat) (v0 : Int) (l0 : i0 < len) (q0 : w.cell? ⟨g, o + i0 * 6 + 1, none⟩ = some (.int .i64 v0)) (e1 : (b != 0) = false) (e2 : (c != 0) = false) :
    Calls Try.prog 74 #[.agg #[.int .i64 op, .int .i64 v, .int .u64 n, .int .i64 (i0 : Nat), .int .i64 b, .int .i64 c], .slice (some ⟨g, o, none⟩) len cap] w fun e w' => e = .returned (.tuple #[.agg #[.int .i64 v0, .int .i64 0, .int .i64 0], .bool true]) ∧ Below w.heap.size w w' := by
  unfold maxLen at hm
  have HK := Lib.hid hk
  clear hk
  have l0' : ¬ (len : Int) ≤ i0 := by omega
  have m1 : g < w.heap.size + 1 := by omega
  have m2 : g < w.heap.size + 1 + 1 := by omega
  go_enter Try.func74, Try.ntmps74
  go_wp2_with (go_at_call 73; refine (kids_any _ _).mono ?_; rintro e w' ⟨rfl, rfl⟩; rw [HK.out])
  refine wp_loop_rounds 2 ?_
  rw [rounds_succ]; go_wp2
  rw [rounds_succ]; go_wp2
  refine wp_loop_rounds 3 ?_
  rw [rounds_succ]; go_wp2
  rw [rounds_succ]; go_wp2
  rw [rounds_succ]; go_wp2
  exact bodyPost_ret (v := .tuple #[.agg #[.int .i64 v0, .int .i64 0, .int .i64 0], .bool true]) (by simp [results, Try.results74, go_sem]) rfl ⟨rfl, (((Below.refl _ _).alloc (Nat.le_refl _) _).alloc (by simp) _).alloc (by simp; omega) _⟩

set_option maxRecDepth 20000 in
set_option maxHeartbeats 1000000 in
theorem kw20 (op v n a b c : Int) (A : Option Addr) (len cap : Nat) (w : World) (hk : Tm.kidn op = 2) (hm : len ≤ maxLen) (e0 : a < 0 ∨ (len : Int) ≤ a) :
    Calls Try.prog 74 #[.agg #[.int .i64 op, .int .i64 v, .int .u64 n, .int .i64 a, .int .i64 b, .int .i64 c], .slice A len cap] w fun e w' => e = .returned (.tuple #[.agg #[.int .i64 0, .int .i64 0, .int .i64 0], .bool false]) ∧ Below w.heap.size w w' := by
  unfold maxLen at hm
  have HK := Lib.hid hk
  clear hk
  rcases e0 with e0 | e0
  all_goals
    go_enter Try.func74, Try.ntmps74
    go_wp2_with (go_at_call 73; refine (kids_any _ _).mono ?_; rintro e w' ⟨rfl, rfl⟩; rw [HK.out])
    refine wp_loop_rounds 3 ?_
    rw [rounds_succ]; go_wp2
    exact bodyPost_ret (v := .tuple #[.agg #[.int .i64 0, .int .i64 0, .int .i64 0], .bool false]) (by simp [results, Try.results74, go_sem]) rfl ⟨rfl, (((Below.refl _ _).alloc (Nat.le_refl _) _).alloc (by simp) _).alloc (by simp; omega) _⟩

set_option maxRecDepth 20000 in
set_option maxHeartbeats 1000000 in
theorem kw21 (op v n b c : Int) (g o : Nat) (len cap : Nat) (w : World) (hk : Tm.kidn op = 2) (hm : len ≤ maxLen) (hg : g < w.heap.size) (i0 : Nat) (v0 : Int) (l0 : i0 < len) (q0 : w.cell? ⟨g, o + i0 * 6 + 1, none⟩ = some (.int .i64 v0)) (e1 : b < 0 ∨ (len : Int) ≤ b) :
    Calls Try.prog 74 #[.agg #[.int .i64 op, .int .i64 v, .int .u64 n, .int .i64 (i0 : Nat), .int .i64 b, .int .i64 c], .slice (some ⟨g, o, none⟩) len cap] w fun e w' => e = .returned (.tuple #[.agg #[.int .i64 v0, .int .i64 0, .int .i64 0], .bool false]) ∧ Below w.heap.size w w' := by
  unfold maxLen at hm
  have HK := Lib.hid hk
  clear hk
  have l0' : ¬ (len : Int) ≤ i0 := by omega
  have m1 : g < w.heap.size + 1 := by omega
  have m2 : g < w.heap.size + 1 + 1 := by omega
  rcases e1 with e1 | e1
  all_goals
    go_enter Try.func74, Try.ntmps74
    go_wp2_with (go_at_call 73; refine (kids_any _ _).mono ?_; rintro e w' ⟨rfl, rfl⟩; rw [HK.out])
    refine wp_loop_rounds 3 ?_
    rw [rounds_succ]; go_wp2
    rw [rounds_succ]; go_wp2
    exact bodyPost_ret (v := .tuple #[.agg #[.int .i64 v0, .int .i64 0, .int .i64 0], .bool false]) (by simp [results, Try.results74, go_sem]) rfl ⟨rfl, (((Below.refl _ _).alloc (Nat.le_refl _) _).alloc (by simp) _).alloc (by simp; omega) _⟩

set_option maxRecDepth 20000 in
set_option maxHeartbeats 1000000 in
theorem kw22 (op v n c : Int) (g o : Nat) (len cap : Nat) (w : World) (hk : Tm.kidn op = 2) (hm : len ≤ maxLen) (hg : g < w.heap.size) (i0 : Nat) (v0 : Int) (l0 : i0 < len) (q0 : w.cell? ⟨g, o + i0 * 6 + 1, none⟩ = some (.int .i64 v0)) (i1 : Nat) (v1 : Int) (l1 : i1 < len) (q1 : w.cell? ⟨g, o + i1 * 6 + 1, none⟩ = some (.int .i64 v1)) (e2 : (c != 0) = true) :
    Calls Try.prog 74 #[.agg #[.int .i64 op, .int .i64 v, .int .u64 n, .int .i64 (i0 : Nat), .int .i64 (i1 : Nat), .int .i64 c], .slice (some ⟨g, o, none⟩) len cap] w fun e w' => e = .returned (.tuple #[.agg #[.int .i64 v0, .int .i64 v1, .int .i64 0], .bool false]) ∧ Below w.heap.size w w' := by
  unfold maxLen at hm
  have HK := Lib.hid hk
  clear hk
  have l0' : ¬ (len : Int) ≤ i0 := by omega
  have l1' : ¬ (len : Int) ≤ i1 := by omega
  have m1 : g < w.heap.size + 1 := by omega
  have m2 : g < w.heap.size + 1 + 1 := by omega
  go_enter Try.func74, Try.ntmps74
  go_wp2_with (go_at_call 73; refine (kids_any _ _).mono ?_; rintro e w' ⟨rfl, rfl⟩; rw [HK.out])
  refine wp_loop_rounds 3 ?_
  rw [rounds_succ]; go_wp2
  rw [rounds_succ]; go_wp2
  rw [rounds_succ]; go_wp2
  refine wp_loop_rounds 2 ?_
  rw [rounds_succ]; go_wp2
  exact bodyPost_ret (v := .tuple #[.agg #[.int .i64 v0, .int .i64 v1, .int .i64 0], .bool false]) (by simp [results, Try.results74, go_sem]) rfl ⟨rfl, (((Below.refl _ _).alloc (Nat.le_refl _) _).alloc (by simp) _).alloc (by simp; omega) _⟩

set_option maxRecDepth 20000 in
set_option maxHeartbeats 1000000 in
theorem kw23 (op v n c : Int) (g o : Nat) (len cap : Nat) (w : World) (hk : Tm.kidn op = 2) (hm : len ≤ maxLen) (hg : g < w.heap.size) (i0 : Nat) (v0 : Int) (l0 : i0 < len) (q0 : w.cell? ⟨g, o + i0 * 6 + 1, none⟩ = some (.int .i64 v0)) (i1 : Nat) (v1 : Int) (l1 : i1 < len) (q1 : w.cell? ⟨g, o + i1 * 6 + 1, none⟩ = some (.int .i64 v1)) (e2 : (c != 0) = false) :
    Calls Try.prog 74 #[.agg #[.int .i64 op, .int .i64 v, .int .u64 n, .int .i64 (i0 : Nat), .int .i64 (i1 : Nat), .int .i64 c], .slice (some ⟨g, o, none⟩) len cap] w fun e w' => e = .returned (.tuple #[.agg #[.int .i64 v0, .int .i64 v1, .int .i64 0], .bool true]) ∧ Below w.heap.size w w' := by
  unfold maxLen at hm
  have HK := Lib.hid hk
  clear hk
  have l0' : ¬ (len : Int) ≤ i0 := by omega
  have l1' : ¬ (len : Int) ≤ i1 := by omega
  have m1 : g < w.heap.size + 1 := by omega
  have m2 : g < w.heap.size + 1 + 1 := by omega
  go_enter Try.func74, Try.ntmps74
  go_wp2_with (go_at_call 73; refine (kids_any _ _).mono ?_; rintro e w' ⟨rfl, rfl⟩; rw [HK.out])
  refine wp_loop_rounds 3 ?_
  rw [rounds_succ]; go_wp2
  rw [rounds_succ]; go_wp2
  rw [rounds_succ]; go_wp2
  refine wp_loop_rounds 2 ?_
  rw [rounds_succ]; go_wp2
  rw [rounds_succ]; go_wp2
  exact bodyPost_ret (v := .tuple #[.agg #[.int .i64 v0, .int .i64 v1, .int .i64 0], .bool true]) (by simp [results, Try.results74, go_sem]) rfl ⟨rfl, (((Below.refl _ _).alloc (Nat.le_refl _) _).alloc (by simp) _).alloc (by simp; omega) _⟩

set_option maxRecDepth 20000 in
set_option maxHeartbeats 1000000 in
theorem kw30 (op v n a b c : Int) (A : Option Addr) (len cap : Nat) (w : World) (hk : Tm.kidn op = 3) (hm : len ≤ maxLen) (e0 : a < 0 ∨ (len : Int) ≤ a) :
    Calls Try.prog 74 #[.agg #[.int .i64 op, .int .i64 v, .int .u64 n, .int .i64 a, .int .i64 b, .int .i64 c], .slice A len cap] w fun e w' => e = .returned (.tuple #[.agg #[.int .i64 0, .int .i64 0, .int .i64 0], .bool false]) ∧ Below w.heap.size w w' := by
  unfold maxLen at hm
  have HK := Lib.hid hk
  clear hk
  rcases e0 with e0 | e0
  all_goals
    go_enter Try.func74, Try.ntmps74
    go_wp2_with (go_at_call 73; refine (kids_any _ _).mono ?_; rintro e w' ⟨rfl, rfl⟩; rw [HK.out])
    refine wp_loop_rounds 4 ?_
    rw [rounds_succ]; go_wp2
    exact bodyPost_ret (v := .tuple #[.agg #[.int .i64 0, .int .i64 0, .int .i64 0], .bool false]) (by simp [results, Try.results74, go_sem]) rfl ⟨rfl, (((Below.refl _ _).alloc (Nat.le_refl _) _).alloc (by simp) _).alloc (by simp; omega) _⟩

set_option maxRecDepth 20000 in
set_option maxHeartbeats 1000000 in
theorem kw31 (op v n b c : Int) (g o : Nat) (len cap : Nat) (w : World) (hk : Tm.kidn op = 3) (hm : len ≤ maxLen) (hg : g < w.heap.size) (i0 : Nat) (v0 : Int) (l0 : i0 < len) (q0 : w.cell? ⟨g, o + i0 * 6 + 1, none⟩ = some (.int .i64 v0)) (e1 : b < 0 ∨ (len : Int) ≤ b) :
    Calls Try.prog 74 #[.agg #[.int .i64 op, .int .i64 v, .int .u64 n, .int .i64 (i0 : Nat), .int .i64 b, .int .i64 c], .slice (some ⟨g, o, none⟩) len cap] w fun e w' => e = .returned (.tuple #[.agg #[.int .i64 v0, .int .i64 0, .int .i64 0], .bool false]) ∧ Below w.heap.size w w' := by
  unfold maxLen at hm
  have HK := Lib.hid hk
  clear hk
  have l0' : ¬ (len : Int) ≤ i0 := by omega
  have m1 : g < w.heap.size + 1 := by omega
  have m2 : g < w.heap.size + 1 + 1 := by omega
  rcases e1 with e1 | e1
  all_goals
    go_enter Try.func74, Try.ntmps74
    go_wp2_with (go_at_call 73; refine (kids_any _ _).mono ?_; rintro e w' ⟨rfl, rfl⟩; rw [HK.out])
    refine wp_loop_rounds 4 ?_
    rw [rounds_succ]; go_wp2
    rw [rounds_succ]; go_wp2
    exact bodyPost_ret (v := .tuple #[.agg #[.int .i64 v0, .int .i64 0, .int .i64 0], .bool false]) (by simp [results, Try.results74, go_sem]) rfl ⟨rfl, (((Below.refl _ _).alloc (Nat.le_refl _) _).alloc (by simp) _).alloc (by simp; omega) _⟩

set_option maxRecDepth 20000 in
set_option maxHeartbeats 1000000 in
theorem kw32 (op v n c : Int) (g o : Nat) (len cap : Nat) (w : World) (hk : Tm.kidn op = 3) (hm : len ≤ maxLen) (hg : g < w.heap.size) (i0 : Nat) (v0 : Int) (l0 : i0 < len) (q0 : w.cell? ⟨g, o + i0 * 6 + 1, none⟩ = some (.int .i64 v0)) (i1 : Nat) (v1 : Int) (l1 : i1 < len) (q1 : w.cell? ⟨g, o + i1 * 6 + 1, none⟩ = some (.int .i64 v1)) (e2 : c < 0 ∨ (len : Int) ≤ c) :
    Calls Try.prog 74 #[.agg #[.int .i64 op, .int .i64 v, .int .u64 n, .int .i64 (i0 : Nat), .int .i64 (i1 : Nat), .int .i64 c], .slice (some ⟨g, o, none⟩) len cap] w fun e w' => e = .returned (.tuple #[.agg #[.int .i64 v0, .int .i64 v1, .int .i64 0], .bool false]) ∧ Below w.heap.size w w' := by
  unfold maxLen at hm
  have HK := Lib.hid hk
  clear hk
  have l0' : ¬ (len : Int) ≤ i0 := by omega
  have l1' : ¬ (len : Int) ≤ i1 := by omega
  have m1 : g < w.heap.size + 1 := by omega
  have m2 : g < w.heap.size + 1 + 1 := by omega
  rcases e2 with e2 | e2
  all_goals
    go_enter Try.func74, Try.ntmps74
    go_wp2_with (go_at_call 73; refine (kids_any _ _).mono ?_; rintro e w' ⟨rfl, rfl⟩; rw [HK.out])
    refine wp_loop_rounds 4 ?_
    rw [rounds_succ]; go_wp2
    rw [rounds_succ]; go_wp2
    rw [rounds_succ]; go_wp2
    exact bodyPost_ret (v := .tuple #[.agg #[.int .i64 v0, .int .i64 v1, .int .i64 0], .bool false]) (by simp [results, Try.results74, go_sem]) rfl ⟨rfl, (((Below.refl _ _).alloc (Nat.le_refl _) _).alloc (by simp) _).alloc (by simp; omega) _⟩

set_option maxRecDepth 20000 in
set_option maxHeartbeats 1000000 in
theorem kw33 (op v n : Int) (g o : Nat) (len cap : Nat) (w : World) (hk : Tm.kidn op = 3) (hm : len ≤ maxLen) (hg : g < w.heap.size) (i0 : Nat) (v0 : Int) (l0 : i0 < len) (q0 : w.cell? ⟨g, o + i0 * 6 + 1, none⟩ = some (.int .i64 v0)) (i1 : Nat) (v1 : Int) (l1 : i1 < len) (q1 : w.cell? ⟨g, o + i1 * 6 + 1, none⟩ = some (.int .i64 v1)) (i2 : Nat) (v2 : Int) (l2 : i2 < len) (q2 : w.cell? ⟨g, o + i2 * 6 + 1, none⟩ = some (.int .i64 v2)) :
    Calls Try.prog 74 #[.agg #[.int .i64 op, .int .i64 v, .int .u64 n, .int .i64 (i0 : Nat), .int .i64 (i1 : Nat), .int .i64 (i2 : Nat)], .slice (some ⟨g, o, none⟩) len cap] w fun e w' => e = .returned (.tuple #[.agg #[.int .i64 v0, .int .i64 v1, .int .i64 v2], .bool true]) ∧ Below w.heap.size w w' := by
  unfold maxLen at hm
  have HK := Lib.hid hk
  clear hk
  have l0' : ¬ (len : Int) ≤ i0 := by omega
  have l1' : ¬ (len : Int) ≤ i1 := by omega
  have l2' : ¬ (len : Int) ≤ i2 := by omega
  have m1 : g < w.heap.size + 1 := by omega
  have m2 : g < w.heap.size + 1 + 1 := by omega
  go_enter Try.func74, Try.ntmps74
  go_wp2_with (go_at_call 73; refine (kids_any _ _).mono ?_; rintro e w' ⟨rfl, rfl⟩; rw [HK.out])
  refine wp_loop_rounds 4 ?_
  rw [rounds_succ]; go_wp2
  rw [rounds_succ]; go_wp2
  rw [rounds_succ]; go_wp2
  rw [rounds_succ]; go_wp2
  refine wp_loop_rounds 1 ?_
  rw [rounds_succ]; go_wp2
  exact bodyPost_ret (v := .tuple #[.agg #[.int .i64 v0, .int .i64 v1, .int .i64 v2], .bool true]) (by simp [results, Try.results74, go_sem]) rfl ⟨rfl, (((Below.refl _ _).alloc (Nat.le_refl _) _).alloc (by simp) _).alloc (by simp; omega) _⟩

end Go.Proofs.Ytdbcpnpcnkccaaa
namespace Go.Proofs.Ytdbcpnpcnkccaaa
open Go.RowKit

theorem KwP.mk {nd : Tm.Nd} {len : Nat} {X : List Tm.Nd} {w w' : World} {e : Ending} {x y u : Int} {B : Bool} (he : e = .returned (.tuple #[.agg #[.int .i64 x, .int .i64 y, .int .i64 u], .bool B])) (hk : Tm.kok nd len = B) (hv : B = true → x = Tm.w0 nd X ∧ y = Tm.w1 nd X ∧ u = Tm.w2 nd X) (hb : Below w.heap.size w w') : KwP nd len X w e w' :=
  ⟨x, y, u, by rw [hk]; exact he, fun h => hv (hk ▸ h), hb⟩

set_option maxHeartbeats 1000000 in
theorem kidw_any (op v n a b c : Int) (A : Option Addr) (len cap : Nat) (X : List Tm.Nd) (w : World) (h : NdR w A len cap X) :
    Calls Try.prog 74 #[.agg #[.int .i64 op, .int .i64 v, .int .u64 n, .int .i64 a, .int .i64 b, .int .i64 c], .slice A len cap] w (KwP ⟨op, v, n, a, b, c⟩ len X w) := by
  have hm : len ≤ maxLen := Nat.le_trans h.hle h.hcap
  have h4 : Tm.kidn op = 0 ∨ Tm.kidn op = 1 ∨ Tm.kidn op = 2 ∨ Tm.kidn op = 3 := by have := Tm.kidn_le op; omega
  rcases h4 with hk | hk | hk | hk
  · by_cases t0 : a = 0
    · have e0 : (a != 0) = false := by simp [t0]
      by_cases t1 : b = 0
      · have e1 : (b != 0) = false := by simp [t1]
        by_cases t2 : c = 0
        · have e2 : (c != 0) = false := by simp [t2]
          have hkk : Tm.kok ⟨op, v, n, a, b, c⟩ len = true := by simp [Tm.kok, hk, t0, t1, t2]
          refine (kw03 op v n a b c A len cap w hk hm e0 e1 e2).mono fun e w' ⟨he, hb⟩ => KwP.mk he hkk (fun h => ?_) hb
          exact ⟨by simp [Tm.w0, hk, Tm.wd], by simp [Tm.w1, hk, Tm.wd], by simp [Tm.w2, hk, Tm.wd]⟩
        · have e2 : (c != 0) = true := by simpa using t2
          have hkk : Tm.kok ⟨op, v, n, a, b, c⟩ len = false := by simp [Tm.kok, hk, t0, t1, t2]
          refine (kw02 op v n a b c A len cap w hk hm e0 e1 e2).mono fun e w' ⟨he, hb⟩ => KwP.mk he hkk (fun h => ?_) hb
          cases h
      · have e1 : (b != 0) = true := by simpa using t1
        have hkk : Tm.kok ⟨op, v, n, a, b, c⟩ len = false := by simp [Tm.kok, hk, t0, t1]
        refine (kw01 op v n a b c A len cap w hk hm e0 e1).mono fun e w' ⟨he, hb⟩ => KwP.mk he hkk (fun h => ?_) hb
        cases h
    · have e0 : (a != 0) = true := by simpa using t0
      have hkk : Tm.kok ⟨op, v, n, a, b, c⟩ len = false := by simp [Tm.kok, hk, t0]
      refine (kw00 op v n a b c A len cap w hk hm e0).mono fun e w' ⟨he, hb⟩ => KwP.mk he hkk (fun h => ?_) hb
      cases h
  · by_cases t0 : Tm.inn a len = true
    · obtain ⟨s0, r0⟩ := Tm.inn_iff.1 t0
      obtain ⟨i0, rfl⟩ := Int.eq_ofNat_of_zero_le s0
      obtain ⟨g, o, rfl, hg, hx⟩ := h.mem (by omega)
      have q0 := (hx i0 (by omega)).2.1
      by_cases t1 : b = 0
      · have e1 : (b != 0) = false := by simp [t1]
        by_cases t2 : c = 0
        · have e2 : (c != 0) = false := by simp [t2]
          have hkk : Tm.kok ⟨op, v, n, ((i0 : Nat) : Int), b, c⟩ len = true := by simp [Tm.kok, hk, t0, t1, t2]
          refine (kw13 op v n b c g o len cap w hk hm hg i0 _ (by omega) q0 e1 e2).mono fun e w' ⟨he, hb⟩ => KwP.mk he hkk (fun h => ?_) hb
          exact ⟨by simp [Tm.w0, hk, Tm.wd], by simp [Tm.w1, hk, Tm.wd], by simp [Tm.w2, hk, Tm.wd]⟩
        · have e2 : (c != 0) = true := by simpa using t2
          have hkk : Tm.kok ⟨op, v, n, ((i0 : Nat) : Int), b, c⟩ len = false := by simp [Tm.kok, hk, t0, t1, t2]
          refine (kw12 op v n b c g o len cap w hk hm hg i0 _ (by omega) q0 e1 e2).mono fun e w' ⟨he, hb⟩ => KwP.mk he hkk (fun h => ?_) hb
          cases h
      · have e1 : (b != 0) = true := by simpa using t1
        have hkk : Tm.kok ⟨op, v, n, ((i0 : Nat) : Int), b, c⟩ len = false := by simp [Tm.kok, hk, t0, t1]
        refine (kw11 op v n b c g o len cap w hk hm hg i0 _ (by omega) q0 e1).mono fun e w' ⟨he, hb⟩ => KwP.mk he hkk (fun h => ?_) hb
        cases h
    · have t0 : Tm.inn a len = false := by simpa using t0
      have e0 : a < 0 ∨ (len : Int) ≤ a := by have := mt Tm.inn_iff.2 (by rw [t0]; simp); omega
      have hkk : Tm.kok ⟨op, v, n, a, b, c⟩ len = false := by simp [Tm.kok, hk, t0]
      refine (kw10 op v n a b c A len cap w hk hm e0).mono fun e w' ⟨he, hb⟩ => KwP.mk he hkk (fun h => ?_) hb
      cases h
  · by_cases t0 : Tm.inn a len = true
    · obtain ⟨s0, r0⟩ := Tm.inn_iff.1 t0
      obtain ⟨i0, rfl⟩ := Int.eq_ofNat_of_zero_le s0
      obtain ⟨g, o, rfl, hg, hx⟩ := h.mem (by omega)
      have q0 := (hx i0 (by omega)).2.1
      by_cases t1 : Tm.inn b len = true
      · obtain ⟨s1, r1⟩ := Tm.inn_iff.1 t1
        obtain ⟨i1, rfl⟩ := Int.eq_ofNat_of_zero_le s1
        have q1 := (hx i1 (by omega)).2.1
        by_cases t2 : c = 0
        · have e2 : (c != 0) = false := by simp [t2]
          have hkk : Tm.kok ⟨op, v, n, ((i0 : Nat) : Int), ((i1 : Nat) : Int), c⟩ len = true := by simp [Tm.kok, hk, t0, t1, t2]
          refine (kw23 op v n c g o len cap w hk hm hg i0 _ (by omega) q0 i1 _ (by omega) q1 e2).mono fun e w' ⟨he, hb⟩ => KwP.mk he hkk (fun h => ?_) hb
          exact ⟨by simp [Tm.w0, hk, Tm.wd], by simp [Tm.w1, hk, Tm.wd], by simp [Tm.w2, hk, Tm.wd]⟩
        · have e2 : (c != 0) = true := by simpa using t2
          have hkk : Tm.kok ⟨op, v, n, ((i0 : Nat) : Int), ((i1 : Nat) : Int), c⟩ len = false := by simp [Tm.kok, hk, t0, t1, t2]
          refine (kw22 op v n c g o len cap w hk hm hg i0 _ (by omega) q0 i1 _ (by omega) q1 e2).mono fun e w' ⟨he, hb⟩ => KwP.mk he hkk (fun h => ?_) hb
          cases h
      · have t1 : Tm.inn b len = false := by simpa using t1
        have e1 : b < 0 ∨ (len : Int) ≤ b := by have := mt Tm.inn_iff.2 (by rw [t1]; simp); omega
        have hkk : Tm.kok ⟨op, v, n, ((i0 : Nat) : Int), b, c⟩ len = false := by simp [Tm.kok, hk, t0, t1]
        refine (kw21 op v n b c g o len cap w hk hm hg i0 _ (by omega) q0 e1).mono fun e w' ⟨he, hb⟩ => KwP.mk he hkk (fun h => ?_) hb
        cases h
    · have t0 : Tm.inn a len = false := by simpa using t0
      have e0 : a < 0 ∨ (len : Int) ≤ a := by have := mt Tm.inn_iff.2 (by rw [t0]; simp); omega
      have hkk : Tm.kok ⟨op, v, n, a, b, c⟩ len = false := by simp [Tm.kok, hk, t0]
      refine (kw20 op v n a b c A len cap w hk hm e0).mono fun e w' ⟨he, hb⟩ => KwP.mk he hkk (fun h => ?_) hb
      cases h
  · by_cases t0 : Tm.inn a len = true
    · obtain ⟨s0, r0⟩ := Tm.inn_iff.1 t0
      obtain ⟨i0, rfl⟩ := Int.eq_ofNat_of_zero_le s0
      obtain ⟨g, o, rfl, hg, hx⟩ := h.mem (by omega)
      have q0 := (hx i0 (by omega)).2.1
      by_cases t1 : Tm.inn b len = true
      · obtain ⟨s1, r1⟩ := Tm.inn_iff.1 t1
        obtain ⟨i1, rfl⟩ := Int.eq_ofNat_of_zero_le s1
        have q1 := (hx i1 (by omega)).2.1
        by_cases t2 : Tm.inn c len = true
        · obtain ⟨s2, r2⟩ := Tm.inn_iff.1 t2
          obtain ⟨i2, rfl⟩ := Int.eq_ofNat_of_zero_le s2
          have q2 := (hx i2 (by omega)).2.1
          have hkk : Tm.kok ⟨op, v, n, ((i0 : Nat) : Int), ((i1 : Nat) : Int), ((i2 : Nat) : Int)⟩ len = true := by simp [Tm.kok, hk, t0, t1, t2]
          refine (kw33 op v n g o len cap w hk hm hg i0 _ (by omega) q0 i1 _ (by omega) q1 i2 _ (by omega) q2).mono fun e w' ⟨he, hb⟩ => KwP.mk he hkk (fun h => ?_) hb
          exact ⟨by simp [Tm.w0, hk, Tm.wd], by simp [Tm.w1, hk, Tm.wd], by simp [Tm.w2, hk, Tm.wd]⟩
        · have t2 : Tm.inn c len = false := by simpa using t2
          have e2 : c < 0 ∨ (len : Int) ≤ c := by have := mt Tm.inn_iff.2 (by rw [t2]; simp); omega
          have hkk : Tm.kok ⟨op, v, n, ((i0 : Nat) : Int), ((i1 : Nat) : Int), c⟩ len = false := by simp [Tm.kok, hk, t0, t1, t2]
          refine (kw32 op v n c g o len cap w hk hm hg i0 _ (by omega) q0 i1 _ (by omega) q1 e2).mono fun e w' ⟨he, hb⟩ => KwP.mk he hkk (fun h => ?_) hb
          cases h
      · have t1 : Tm.inn b len = false := by simpa using t1
        have e1 : b < 0 ∨ (len : Int) ≤ b := by have := mt Tm.inn_iff.2 (by rw [t1]; simp); omega
        have hkk : Tm.kok ⟨op, v, n, ((i0 : Nat) : Int), b, c⟩ len = false := by simp [Tm.kok, hk, t0, t1]
        refine (kw31 op v n b c g o len cap w hk hm hg i0 _ (by omega) q0 e1).mono fun e w' ⟨he, hb⟩ => KwP.mk he hkk (fun h => ?_) hb
        cases h
    · have t0 : Tm.inn a len = false := by simpa using t0
      have e0 : a < 0 ∨ (len : Int) ≤ a := by have := mt Tm.inn_iff.2 (by rw [t0]; simp); omega
      have hkk : Tm.kok ⟨op, v, n, a, b, c⟩ len = false := by simp [Tm.kok, hk, t0]
      refine (kw30 op v n a b c A len cap w hk hm e0).mono fun e w' ⟨he, hb⟩ => KwP.mk he hkk (fun h => ?_) hb
      cases h

set_option maxRecDepth 20000 in
set_option maxHeartbeats 2000000 in
theorem fault_any (op v n a b c : Int) (A : Option Addr) (len cap : Nat) (X : List Tm.Nd) (w : World) (h : NdR w A len cap X) (h0 : 0 ≤ n) (h1 : n < 18446744073709551616) :
    Calls Try.prog 47 #[.agg #[.int .i64 op, .int .i64 v, .int .u64 n, .int .i64 a, .int .i64 b, .int .i64 c], .slice A len cap] w fun e w' => e = .returned (.int .i64 (Tm.flt ⟨op, v, n, a, b, c⟩ len X)) ∧ Below w.heap.size w w' := by
  by_cases ho : op < 0 ∨ 24 < op
  · have hf : Tm.flt ⟨op, v, n, a, b, c⟩ len X = 4 := by rw [Tm.flt, if_pos ho]
    rw [hf]
    clear hf h
    go_enter Try.func47, Try.ntmps47
    go_wp2
    all_goals
      try (exfalso; omega)
      go_ret
      exact ⟨rfl, Below.box _ _⟩
  · have o1 : ¬ op < 0 := by omega
    have o2 : ¬ 24 < op := by omega
    have HB := Below.box w (.cells #[.int .i64 op, .int .i64 v, .int .u64 n, .int .i64 a, .int .i64 b, .int .i64 c] 36)
    have HC := Lib.hid (kidw_any op v n a b c A len cap X _ (h.below HB))
    have HO := Lib.hid ho
    clear ho h
    go_enter Try.func47, Try.ntmps47
    go_wp2_with fail
    refine HC.out.mono ?_
    rintro e v1 ⟨x, y, u, rfl, hxy, hb1⟩
    have hz : w.heap.size < v1.heap.size := by have := hb1.size; simp at this; omega
    have c0 : v1.cell? ⟨w.heap.size, 0, none⟩ = some (.int .i64 op) := cells_below hb1 (by simp [go_sem]) (by simp)
    have c1 : v1.cell? ⟨w.heap.size, 1, none⟩ = some (.int .i64 v) := cells_below hb1 (by simp [go_sem]) (by simp)
    have c2 : v1.cell? ⟨w.heap.size, 2, none⟩ = some (.int .u64 n) := cells_below hb1 (by simp [go_sem]) (by simp)
    have c3 : v1.cell? ⟨w.heap.size, 3, none⟩ = some (.int .i64 a) := cells_below hb1 (by simp [go_sem]) (by simp)
    have c4 : v1.cell? ⟨w.heap.size, 4, none⟩ = some (.int .i64 b) := cells_below hb1 (by simp [go_sem]) (by simp)
    have c5 : v1.cell? ⟨w.heap.size, 5, none⟩ = some (.int .i64 c) := cells_below hb1 (by simp [go_sem]) (by simp)
    have HV := Lib.hid (HB.trans (hb1.mono HB.size))
    have HX := Lib.hid hxy
    clear hxy hb1 HB
    by_cases hk : Tm.kok ⟨op, v, n, a, b, c⟩ len = true
    · have HK := Lib.hid hk
      rw [hk]
      clear hk
      obtain ⟨rfl, rfl, rfl⟩ := HX.out HK.out
      have HF := Lib.hid (show Tm.flt ⟨op, v, n, a, b, c⟩ len X = if Tm.wok op v (Tm.w0 ⟨op, v, n, a, b, c⟩ X) (Tm.w1 ⟨op, v, n, a, b, c⟩ X) (Tm.w2 ⟨op, v, n, a, b, c⟩ X) = false then 8 else if Tm.nok op v n = false then 3 else 0 by
        rw [Tm.flt, if_neg HO.out, if_neg (by rw [HK.out]; simp)])
      clear HX HC
      generalize Tm.w0 ⟨op, v, n, a, b, c⟩ X = x at HF ⊢
      generalize Tm.w1 ⟨op, v, n, a, b, c⟩ X = y at HF ⊢
      generalize Tm.w2 ⟨op, v, n, a, b, c⟩ X = u at HF ⊢
      go_wp2_with fail
      refine (width_any _ _ _ _ _ _ _ _ _ _).mono ?_
      rintro e v2 ⟨rfl, hb2⟩
      have d0 : v2.cell? ⟨w.heap.size, 0, none⟩ = some (.int .i64 op) := cells_below hb2 (by simp [go_sem, c0, hz]) (by simp; omega)
      have d1 : v2.cell? ⟨w.heap.size, 1, none⟩ = some (.int .i64 v) := cells_below hb2 (by simp [go_sem, c1, hz]) (by simp; omega)
      have d2 : v2.cell? ⟨w.heap.size, 2, none⟩ = some (.int .u64 n) := cells_below hb2 (by simp [go_sem, c2, hz]) (by simp; omega)
      have d3 : v2.cell? ⟨w.heap.size, 3, none⟩ = some (.int .i64 a) := cells_below hb2 (by simp [go_sem, c3, hz]) (by simp; omega)
      have d4 : v2.cell? ⟨w.heap.size, 4, none⟩ = some (.int .i64 b) := cells_below hb2 (by simp [go_sem, c4, hz]) (by simp; omega)
      have d5 : v2.cell? ⟨w.heap.size, 5, none⟩ = some (.int .i64 c) := cells_below hb2 (by simp [go_sem, c5, hz]) (by simp; omega)
      have HV2 := Lib.hid ((HV.out.alloc HV.out.size (.cells #[.int .i64 x, .int .i64 y, .int .i64 u] 34)).trans (hb2.mono (by have := HV.out.size; simp; omega)))
      clear hb2
      by_cases hw : Tm.wok op v x y u = true
      · have hwn : op = 0 → v = 1 ∨ v = 8 ∨ v = 64 := fun h => by
          subst h
          simp [Tm.wok] at hw
          omega
        have HW' := Lib.hid hw
        rw [hw]
        have HW := Lib.hid hwn
        clear hw hwn c0 c1 c2 c3 c4 c5
        go_wp2_with fail
        refine (number_any _ _ _ _ _ _ _ h0 h1 HW.out).mono ?_
        rintro e v3 ⟨rfl, hb3⟩
        have HV3 := Lib.hid (HV2.out.trans (hb3.mono HV2.out.size))
        clear hb3
        by_cases hn : Tm.nok op v n = true
        · have HN := Lib.hid hn
          rw [hn]
          clear hn
          go_wp2
          go_ret
          exact ⟨ret_int (by rw [HF.out, if_neg (by rw [HW'.out]; simp), if_neg (by rw [HN.out]; simp)]), HV3.out⟩
        · have hn : Tm.nok op v n = false := by simpa using hn
          have HN := Lib.hid hn
          rw [hn]
          clear hn
          go_wp2
          go_ret
          exact ⟨ret_int (by rw [HF.out, if_neg (by rw [HW'.out]; simp), if_pos HN.out]), HV3.out⟩
      · have hw : Tm.wok op v x y u = false := by simpa using hw
        have HW' := Lib.hid hw
        rw [hw]
        clear hw
        go_wp2
        go_ret
        exact ⟨ret_int (by rw [HF.out, if_pos HW'.out]), HV2.out⟩
    · have hk : Tm.kok ⟨op, v, n, a, b, c⟩ len = false := by simpa using hk
      have HK := Lib.hid hk
      rw [hk]
      clear hk HX HC
      go_wp2
      go_ret
      exact ⟨ret_int (by rw [Tm.flt, if_neg HO.out, if_pos HK.out]), HV.out.alloc HV.out.size _⟩
end Go.Proofs.Ytdbcpnpcnkccaaa
