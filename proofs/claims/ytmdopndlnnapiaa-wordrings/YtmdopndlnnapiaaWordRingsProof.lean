/-
  Proved: for every input, the Go function WordRings returns true and leaves its arguments as they were. Condition: none beyond the row's own.
-/
import Derived.Test.YtmdopndlnnapiaaRows
import Derived.WalkKit
import Derived.ProofKit
import Derived.OpenShut
import Derived.Test.YtmdopndlnnapiaaW4
namespace Go.Proofs.Ytmdopndlnnapiaa.wordRings
open Go.ChangeShapes Go.WideShapes Go.ChangeAt Go.RowKit
set_option linter.unusedVariables false      -- a walk need not use every 'w<i>' (that an integer argument fits its kind)

theorem own : ownKnob Try.prog.godebug = none := by kernel_rfl

/-! ### STEP 1: THE WALK: the Go text returns true. 'Grown w w'': the world has at most new blocks (Derived/RowKit3.lean). Part the cases AHEAD of 'go_enter' where a test parts the walk; take each callee by a contract of your own. -/
set_option maxRecDepth 100000 in
set_option maxHeartbeats 1000000 in
theorem walk (a0 : Int) (a1 : Int) (a2 : Int) (a3 : Int) (w0 : (Lit.int .i64 a0).wf = true) (w1 : (Lit.int .u64 a1).wf = true) (w2 : (Lit.int .u64 a2).wf = true) (w3 : (Lit.int .u64 a3).wf = true) (w : World) :
    Calls Try.prog 4 #[.int .i64 a0, .int .u64 a1, .int .u64 a2, .int .u64 a3] w fun e w' => e = .returned (.bool true) ∧ Grown w w' := by
  clear w0 w1 w2 w3
  obtain ⟨r1, r2, r3, r4, r5, r6, r7, r8, r9⟩ := Wd.rings a0 a1 a2 a3
  have f1 : (Wd.app 8 a0 a1 a2 != Wd.app 8 a0 a2 a1) = false := by rw [r1]; simp
  have f2 : (Wd.app 10 a0 a1 a2 != Wd.app 10 a0 a2 a1) = false := by rw [r2]; simp
  have f3 : (Wd.app 8 a0 (Wd.app 8 a0 a1 a2) a3 != Wd.app 8 a0 a1 (Wd.app 8 a0 a2 a3)) = false := by rw [r3]; simp
  have f4 : (Wd.app 10 a0 (Wd.app 10 a0 a1 a2) a3 != Wd.app 10 a0 a1 (Wd.app 10 a0 a2 a3)) = false := by rw [r4]; simp
  have f5 : (Wd.app 10 a0 a1 (Wd.app 8 a0 a2 a3) != Wd.app 8 a0 (Wd.app 10 a0 a1 a2) (Wd.app 10 a0 a1 a3)) = false := by rw [r5]; simp
  have f6 : (Wd.app 9 a0 (Wd.app 8 a0 a1 a2) a2 != Wd.cut a0 a1) = false := by rw [r6]; simp
  have f7 : (Wd.app 8 a0 (Wd.app 5 a0 a1 a2) 1 == Wd.app 9 a0 0 a1) = true := beq_iff_eq.2 r7
  have f8 : (Wd.app 10 a0 a1 1 == Wd.cut a0 a1) = true := beq_iff_eq.2 r8
  have f9 : (Wd.app 8 a0 a1 0 == Wd.cut a0 a1) = true := beq_iff_eq.2 r9
  clear r1 r2 r3 r4 r5 r6 r7 r8 r9
  go_enter Try.func4, Try.ntmps4
  go_wp2_with (first
    | (go_at_call 9; refine (awake_any _).mono ?_; rintro e w' ⟨rfl, n, rfl⟩)
    | (go_at_call 20; refine (add_clo _ a0 _ _ _ (by go_simp)).mono ?_; rintro e w' ⟨rfl, n, rfl⟩)
    | (go_at_call 21; refine (mul_clo _ a0 _ _ _ (by go_simp)).mono ?_; rintro e w' ⟨rfl, n, rfl⟩))
  refine gen_world (S := fun W => W.cell? ⟨w.heap.size, 0, none⟩ = some (.int .i64 a0) ∧ Grown w W) ⟨by go_simp, grown_drewN (Grown.alloc (Grown.refl _) _ _) _⟩ ?_
  intro W ⟨hc, hG⟩
  go_quiet (first
    | (go_at_call 20; exact Calls.quiet_of (add_clo _ a0 _ _ _ (by go_simp)))
    | (go_at_call 21; exact Calls.quiet_of (mul_clo _ a0 _ _ _ (by go_simp)))
    | (go_at_call 11; exact Calls.quiet_of (app_any _ _ _ _ _))
    | (go_at_call 14; exact quiet_same (cut_any _ _ _)))
  go_wp2
  refine gen_world (S := fun W => W.cell? ⟨w.heap.size, 0, none⟩ = some (.int .i64 a0) ∧ Grown w W) ⟨by go_simp, grown_drewN hG _⟩ ?_
  clear hc hG
  intro W ⟨hc, hG⟩
  go_quiet (first
    | (go_at_call 20; exact Calls.quiet_of (add_clo _ a0 _ _ _ (by go_simp)))
    | (go_at_call 21; exact Calls.quiet_of (mul_clo _ a0 _ _ _ (by go_simp)))
    | (go_at_call 11; exact Calls.quiet_of (app_any _ _ _ _ _))
    | (go_at_call 14; exact quiet_same (cut_any _ _ _)))
  go_wp2
  go_ret
  exact ⟨rfl, grown_drewN hG _⟩

/-! ### THE ROW's STEP: WRITTEN OUT: LEAVE IT -/
set_option maxRecDepth 100000 in
theorem lifted (os : Os) (started : os.Started) (H : Type) (enc : TypeId × Value → H) :
    ReturnsInHanded {} Try.checked os 4 .any (Rows.wordRingsSpec.pre6 enc Try.prog Try.f4 Rows.wordRingsRow.domain false) (Rows.wordRingsSpec.post enc Try.prog Try.f4 false true false false) := by
  refine returnsInHanded_of_change (C := Try.checked) own started (by kernel_rfl) Try.func4
    (ChangeSpec.witness6 (enc := enc) (C := Try.checked) false ⟨#[], #[.int .i64 0, .int .u64 0, .int .u64 0, .int .u64 0], []⟩ 8 (by kernel_rfl) (by kernel_rfl) (by kernel_rfl) (by kernel_rfl)) ?_
  intro W base args ds gs before hval0 hW hcnd _
  have hval : ∀ (j : Nat) t v, Try.f4.params[j]? = some t → args[j]? = some v → Value.okWide Try.prog W .any base t v := hval0
  have hW' := hW
  obtain ⟨p, q, hA0, hV, rfl, hfz, hnd⟩ := hW
  have hA : DataW.TrodAll enc Try.prog W 0 (fun _ => true) true Try.f4.params.toList args.toList ds p := hA0
  rw [Try.params4] at hA hval
  obtain ⟨v0, vs0, d0, ds0, p0, q0, hargs, rfl, rfl, h0, r0⟩ := trodAll_cons hA
  obtain ⟨v1, vs1, d1, ds1, p1, q1, rfl, rfl, rfl, h1, r1⟩ := trodAll_cons r0
  obtain ⟨v2, vs2, d2, ds2, p2, q2, rfl, rfl, rfl, h2, r2⟩ := trodAll_cons r1
  obtain ⟨v3, vs3, d3, ds3, p3, q3, rfl, rfl, rfl, h3, r3⟩ := trodAll_cons r2
  obtain ⟨rfl, rfl, rfl⟩ := trodAll_nil r3
  obtain rfl : args = #[v0, v1, v2, v3] := by cases args; simp_all
  obtain ⟨rfl, rfl⟩ := trodVars_none hV
  obtain ⟨a0, rfl, rfl, rfl, w0⟩ := open_int Try.underlying3 (hval 0 3 v0 rfl rfl) h0
  obtain ⟨a1, rfl, rfl, rfl, w1⟩ := open_int Try.underlying22 (hval 1 22 v1 rfl rfl) h1
  obtain ⟨a2, rfl, rfl, rfl, w2⟩ := open_int Try.underlying22 (hval 2 22 v2 rfl rfl) h2
  obtain ⟨a3, rfl, rfl, rfl, w3⟩ := open_int Try.underlying22 (hval 3 22 v3 rfl rfl) h3
  clear hA0 hval0
  simp only [List.append_nil] at hW'
  refine (walk a0 a1 a2 a3 w0 w1 w2 w3 W).mono fun e W' ⟨he, hg⟩ => ?_
  subst he
  exact ⟨_, rfl, post_of_same (pa := []) (pv := []) hW' (fun _ _ _ => (trodAll_cons_mk (shut_bool Try.underlying4 _) trodAll_mk0)) (fun sp _ => (trodAll_cons_mk (shut_int Try.underlying3 w0) (trodAll_cons_mk (shut_int Try.underlying22 w1) (trodAll_cons_mk (shut_int Try.underlying22 w2) (trodAll_cons_mk (shut_int Try.underlying22 w3) trodAll_mk0))))) (fun _ _ => rfl) rfl
    (hg.frame _) hg.2.1 (ok_one (by kernel_rfl) rfl (okWide_bool_mk Try.underlying4 _))⟩

theorem over : Rows.wordRingsRow.holds Try.pinned (OpenSpec.ofChange Rows.wordRingsSpec) :=
  OpenClaim.holds_of_wide 4 Try.f4 rfl rfl rfl rfl rfl rfl rfl ⟨rfl, rfl, rfl, rfl, rfl⟩ rfl rfl rfl rfl rfl (by kernel_rfl) Try.func4 (by kernel_rfl)
    (of_decide_eq_true (by kernel_rfl)) (by unfold Func.isWrapper; first | (rw [if_pos (by decide +kernel)]; kernel_rfl) | (rw [if_neg (by decide +kernel)]; exact ⟨rfl, rfl⟩))
    (fun os started H enc _ => lifted os started H enc)

/-- ████ THE STATEMENT ████ -/
theorem proved : Rows.WordRingsSaid :=
  over
#print axioms proved
end Go.Proofs.Ytmdopndlnnapiaa.wordRings
