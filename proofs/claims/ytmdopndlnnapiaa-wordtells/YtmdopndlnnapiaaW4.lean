/-
  The contracts of the laws' own closures, and two small words for the walk.
-/
import Derived.Test.YtmdopndlnnapiaaW3
namespace Go.Proofs.Ytmdopndlnnapiaa
open Go.RowKit

/-- A world is forgotten but for what is asked of it. -/
theorem gen_world {S : World → Prop} {P : Program} {c : Code} {Q : Exit → Act → World → Prop} {a : Act} {w : World} (h : S w) (k : ∀ W, S W → Code.wp P c Q a W) : Code.wp P c Q a w := k w h
/-- A callee that leaves the world alone, met in a quiet region. -/
theorem quiet_same {P : Program} {f : FuncId} {args : Array Value} {w : World} {n : Nat} {v : Value}
    (h : Calls P f args (w.drewN n) fun e w' => e = .returned v ∧ w.drewN n = w') : Calls P f args (w.drewN n) fun e w'' => e = .returned v ∧ ∃ m, w'' = w.drewN m :=
  h.mono fun _ _ ⟨he, hm⟩ => ⟨he, n, hm.symm⟩

theorem add_clo (p : Addr) (a x y : Int) (w : World) (hc : w.cell? p = some (.int .i64 a)) :
    Calls Try.prog 20 #[.int .u64 x, .int .u64 y, .pointer (some p)] w fun e w' => e = .returned (.int .u64 (Wd.app 8 a x y)) ∧ ∃ n, w' = w.drewN n := by
  go_enter Try.func20, Try.ntmps20
  go_wp2_with fail
  refine (app_any _ _ _ _ _).mono ?_; rintro e w' ⟨rfl, n, rfl⟩
  go_wp2
  go_ret
  exact ⟨rfl, n, rfl⟩
theorem mul_clo (p : Addr) (a x y : Int) (w : World) (hc : w.cell? p = some (.int .i64 a)) :
    Calls Try.prog 21 #[.int .u64 x, .int .u64 y, .pointer (some p)] w fun e w' => e = .returned (.int .u64 (Wd.app 10 a x y)) ∧ ∃ n, w' = w.drewN n := by
  go_enter Try.func21, Try.ntmps21
  go_wp2_with fail
  refine (app_any _ _ _ _ _).mono ?_; rintro e w' ⟨rfl, n, rfl⟩
  go_wp2
  go_ret
  exact ⟨rfl, n, rfl⟩
theorem less_clo (p : Addr) (a x y : Int) (w : World) (hc : w.cell? p = some (.int .i64 a)) :
    Calls Try.prog 22 #[.int .u64 x, .int .u64 y, .pointer (some p)] w fun e w' => e = .returned (.int .u64 (Wd.app 20 a x y)) ∧ ∃ n, w' = w.drewN n := by
  go_enter Try.func22, Try.ntmps22
  go_wp2_with fail
  refine (app_any _ _ _ _ _).mono ?_; rintro e w' ⟨rfl, n, rfl⟩
  go_wp2
  go_ret
  exact ⟨rfl, n, rfl⟩
theorem below_clo (p : Addr) (a x y : Int) (w : World) (hc : w.cell? p = some (.int .i64 a)) :
    Calls Try.prog 23 #[.int .u64 x, .int .u64 y, .pointer (some p)] w fun e w' => e = .returned (.int .u64 (Wd.app 21 a x y)) ∧ ∃ n, w' = w.drewN n := by
  go_enter Try.func23, Try.ntmps23
  go_wp2_with fail
  refine (app_any _ _ _ _ _).mono ?_; rintro e w' ⟨rfl, n, rfl⟩
  go_wp2
  go_ret
  exact ⟨rfl, n, rfl⟩
end Go.Proofs.Ytmdopndlnnapiaa
