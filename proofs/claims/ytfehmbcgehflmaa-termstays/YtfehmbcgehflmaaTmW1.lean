/-
  Contracts of layer 6's small functions: Kids, alike, numberIsRight, widthIsRight; and of the reference's: Kids, width, most.
-/
import Derived.Test.YtfehmbcgehflmaaRows
import Derived.Test.YtfehmbcgehflmaaTmPl
import Derived.WalkKit
import Derived.WalkSpells
import Derived.WalkLawsBesides
import Derived.Lib.Hide
import Derived.Deep.QuietTactic
import Derived.BigQuiet
import Derived.StillTailTactics
namespace Go.Proofs.Ytfehmbcgehflmaa
set_option linter.unusedSimpArgs false
set_option linter.unusedVariables false
open Go.RowKit

theorem ret_int {k : IntKind} {a b : Int} (h : a = b) : Ending.returned (.int k a) = .returned (.int k b) := by rw [h]
theorem ret_bool {a b : Bool} (h : a = b) : Ending.returned (.bool a) = .returned (.bool b) := by rw [h]
theorem Below.box (w : World) (o : Obj) : Below w.heap.size w (w.alloc o) := (Below.refl _ _).alloc (Nat.le_refl _) _
theorem cells_below {n : Nat} {w w' : World} (hb : Below n w w') {b o : Nat} {v : Value} (h : w.cell? ⟨b, o, none⟩ = some v) (hn : b < n) : w'.cell? ⟨b, o, none⟩ = some v :=
  (hb.cell (p := ⟨b, o, none⟩) hn).trans h

set_option maxHeartbeats 400000 in
theorem kids_any (op : Int) (w : World) :
    Calls Try.prog 12 #[.int .i64 op] w fun e w' => e = .returned (.int .i64 (Tm.kidn op : Nat)) ∧ w = w' := by
  go_enter Try.func12, Try.ntmps12
  go_wp2
  all_goals
    go_ret
    refine ⟨ret_int ?_, rfl⟩
    have hk := Tm.kidn_spec op
    generalize Tm.kidn op = k at *
    first | omega | (simp_all; done) | (simp_all; omega)

set_option maxHeartbeats 400000 in
theorem rkids_any (op : Int) (w : World) :
    Calls Try.prog 13 #[.int .i64 op] w fun e w' => e = .returned (.int .i64 (Tm.kidn op : Nat)) ∧ w = w' := by
  go_enter Try.func13, Try.ntmps13
  go_wp2
  all_goals
    go_ret
    refine ⟨ret_int ?_, rfl⟩
    have hk := Tm.kidn_spec op
    generalize Tm.kidn op = k at *
    first | omega | (simp_all; done) | (simp_all; omega)

set_option maxHeartbeats 400000 in
theorem alike_any (x y : Int) (w : World) :
    Calls Try.prog 41 #[.int .i64 x, .int .i64 y] w fun e w' => e = .returned (.bool (Tm.alike x y)) ∧ w = w' := by
  go_enter Try.func41, Try.ntmps41
  go_wp2
  all_goals
    go_ret
    refine ⟨ret_bool ?_, rfl⟩
    simp_all [Tm.alike]

set_option maxRecDepth 20000 in
set_option maxHeartbeats 1000000 in
theorem number_any (op v n a b c : Int) (w : World) (h0 : 0 ≤ n) (h1 : n < 18446744073709551616) (hw : op = 0 → v = 1 ∨ v = 8 ∨ v = 64) :
    Calls Try.prog 36 #[.agg #[.int .i64 op, .int .i64 v, .int .u64 n, .int .i64 a, .int .i64 b, .int .i64 c]] w fun e w' => e = .returned (.bool (Tm.nok op v n)) ∧ Below w.heap.size w w' := by
  by_cases ho : op = 0
  · rcases hw ho with rfl | rfl | rfl
    all_goals
      subst ho
      go_enter Try.func36, Try.ntmps36
      go_wp2
      all_goals
        go_ret
        refine ⟨ret_bool ?_, Below.box _ _⟩
        simp_all [Tm.nok]
        try (first | omega | (rw [Bool.eq_iff_iff]; simp; omega))
  · clear hw
    go_enter Try.func36, Try.ntmps36
    go_wp2
    all_goals
      go_ret
      refine ⟨ret_bool ?_, Below.box _ _⟩
      simp_all [Tm.nok]

set_option maxRecDepth 20000 in
set_option maxHeartbeats 2000000 in
theorem width_any (op v n a b c x y u : Int) (w : World) :
    Calls Try.prog 35 #[.agg #[.int .i64 op, .int .i64 v, .int .u64 n, .int .i64 a, .int .i64 b, .int .i64 c], .agg #[.int .i64 x, .int .i64 y, .int .i64 u]] w fun e w' => e = .returned (.bool (Tm.wok op v x y u)) ∧ Below w.heap.size w w' := by
  go_enter Try.func35, Try.ntmps35
  go_wp2_with (go_at_call 41; refine (alike_any _ _ _).mono ?_; rintro e w' ⟨rfl, rfl⟩)
  all_goals
    go_ret
    refine ⟨ret_bool ?_, (Below.box _ _).trans ((Below.box _ _).mono (by simp))⟩
    simp_all [Tm.wok]

set_option maxRecDepth 20000 in
set_option maxHeartbeats 2000000 in
theorem rwidth_any (op v n a b c x y u : Int) (w : World) :
    Calls Try.prog 37 #[.agg #[.int .i64 op, .int .i64 v, .int .u64 n, .int .i64 a, .int .i64 b, .int .i64 c], .int .i64 x, .int .i64 y, .int .i64 u] w fun e w' => e = .returned (.int .i64 (Tm.rwid op v x y u)) ∧ Below w.heap.size w w' := by
  go_enter Try.func37, Try.ntmps37
  go_wp2
  all_goals
    go_ret
    refine ⟨ret_int ?_, Below.box _ _⟩
    simp_all [Tm.rwid]

set_option maxRecDepth 20000 in
set_option maxHeartbeats 2000000 in
theorem most_any (op v n a b c : Int) (w : World) :
    Calls Try.prog 38 #[.agg #[.int .i64 op, .int .i64 v, .int .u64 n, .int .i64 a, .int .i64 b, .int .i64 c]] w fun e w' => e = .returned (.int .u64 (Tm.mst op v)) ∧ Below w.heap.size w w' := by
  go_enter Try.func38, Try.ntmps38
  go_wp2
  all_goals
    go_ret
    refine ⟨ret_int ?_, Below.box _ _⟩
    simp_all [Tm.mst]
end Go.Proofs.Ytfehmbcgehflmaa
