/-
  Proved: for every input, the Go function WordShifts returns true and leaves its arguments as they were. Condition: none beyond the row's own.
-/
import Derived.Test.YtmdopndlnnapiaaRows
import Derived.WalkKit
import Derived.ProofKit
import Derived.OpenShut
import Derived.Test.YtmdopndlnnapiaaW4
import Derived.Test.YtmdopndlnnapiaaPlain2
namespace Go.Proofs.Ytmdopndlnnapiaa.wordShifts
open Go.ChangeShapes Go.WideShapes Go.ChangeAt Go.RowKit
set_option linter.unusedVariables false      -- a walk need not use every 'w<i>' (that an integer argument fits its kind)

theorem own : ownKnob Try.prog.godebug = none := by kernel_rfl

/-! ### STEP 1: THE WALK: the Go text returns true. 'Grown w w'': the world has at most new blocks (Derived/RowKit3.lean). Part the cases AHEAD of 'go_enter' where a test parts the walk; take each callee by a contract of your own. -/
set_option maxRecDepth 100000 in
set_option maxHeartbeats 1000000 in
theorem walk (a0 : Int) (a1 : Int) (a2 : Int) (w0 : (Lit.int .i64 a0).wf = true) (w1 : (Lit.int .u64 a1).wf = true) (w2 : (Lit.int .u8 a2).wf = true) (w : World) :
    Calls Try.prog 6 #[.int .i64 a0, .int .u64 a1, .int .u8 a2] w fun e w' => e = .returned (.bool true) ∧ Grown w w' := by
  obtain ⟨b0, b1⟩ : 0 ≤ a2 ∧ a2 ≤ 255 := by simpa [Lit.wf, IntKind.min, IntKind.max, IntKind.signed, IntKind.bits] using w2
  clear w0 w1 w2
  obtain ⟨Y, hY⟩ := Int.eq_ofNat_of_zero_le (Wd.cut_lo a0 (a2 % 64))
  have hY64 : Y < 64 := by
    have h1 : Wd.cut a0 (a2 % 64) ≤ a2 % 64 := by
      unfold Wd.cut; rw [Int.emod_def]
      have hp := Wd.pw_pos (Wd.wid a0)
      have := Int.mul_nonneg (Int.le_of_lt hp) (Int.ediv_nonneg (show 0 ≤ a2 % 64 by omega) (Int.le_of_lt hp))
      omega
    omega
  obtain ⟨s1, s2, s3⟩ := Wd.shifts a0 a1 (a2 % 64) Y hY hY64
  have f1 : (Wd.app 16 a0 a1 (a2 % 64) == Wd.upTo a0 (Wd.cut a0 a1) Y) = true := beq_iff_eq.2 s1
  have f2 : (Wd.app 17 a0 a1 (a2 % 64) == Wd.cut a0 a1 / Wd.pw Y) = true := beq_iff_eq.2 s2
  have f3 : (Wd.sgn a0 (Wd.app 18 a0 a1 (a2 % 64)) == Wd.sgn a0 a1 / Wd.pw Y) = true := beq_iff_eq.2 s3
  have HY := Lib.hid hY
  clear hY s1 s2 s3
  have c0 := Wd.cut_lo a0 a1
  have c1 := Wd.cut_hi a0 a1
  go_enter Try.func6, Try.ntmps6
  go_wp2_with fail
  refine (awake_any _).mono ?_; rintro e w' ⟨rfl, n, rfl⟩
  go_wp2_with fail
  refine (cut_any _ _ _).mono ?_; rintro e w' ⟨rfl, rfl⟩
  rw [HY.out]
  go_wp2_with (first
    | (go_at_call 14; refine (cut_any _ _ _).mono ?_; rintro e w' ⟨rfl, rfl⟩)
    | (go_at_call 18; refine (sign_any _ _ _).mono ?_; rintro e w' ⟨rfl, rfl⟩))
  go_loopw [9, 10, 11, 12] (fun u d s i W => ∃ k : Nat, k ≤ Y ∧ i = .int .u64 k ∧ u = .int .u64 (Wd.upTo a0 (Wd.cut a0 a1) k) ∧ d = .int .u64 (Wd.cut a0 a1 / Wd.pw k) ∧ s = .int .i64 (Wd.sgn a0 a1 / Wd.pw k) ∧ ∃ n, W = w.drewN n) (fun _ _ _ i _ => Y - (intOf i).toNat)
  case atStart => exact ⟨0, Nat.zero_le _, rfl, congrArg _ (Wd.up_zero a0 a1), congrArg _ (Wd.div_zero _), congrArg _ (Wd.div_zero _), _, rfl⟩
  case round =>
    obtain ⟨k, hk, rfl, rfl, rfl, rfl, n, rfl⟩ := hrel
    have d0 := Wd.div_pw_lo (Wd.cut a0 a1) k c0
    have d1 : Wd.cut a0 a1 / Wd.pw k < 18446744073709551616 := by have := Wd.div_pw_le (Wd.cut a0 a1) k c0; omega
    by_cases hlt : k < Y
    · have U := Lib.hid (Wd.up_succ a0 (Wd.cut a0 a1) k)
      have D := Lib.hid (Wd.half_succ (Wd.cut a0 a1) k)
      have G := Lib.hid (Wd.half_succ (Wd.sgn a0 a1) k)
      go_wp2_with fail
      refine (app_any _ _ _ _ _).mono ?_; rintro e w' ⟨rfl, m, rfl⟩
      go_wp2
      go_roundw
      case rel => exact ⟨k + 1, by omega, by go_num, congrArg _ U.out, congrArg _ D.out, congrArg _ G.out, _, rfl⟩
      case measure => simp [intOf]; omega
    · obtain rfl : k = Y := by omega
      go_wp2_with (first
        | (go_at_call 11; refine (app_any _ _ _ _ _).mono ?_; rintro e w' ⟨rfl, n, rfl⟩)
        | (go_at_call 18; refine (sign_any _ _ _).mono ?_; rintro e w' ⟨rfl, rfl⟩))
      go_ret
      exact ⟨rfl, grown_drewN (Grown.refl _) _⟩

/-! ### THE ROW's STEP: WRITTEN OUT: LEAVE IT -/
set_option maxRecDepth 100000 in
theorem lifted (os : Os) (started : os.Started) (H : Type) (enc : TypeId × Value → H) :
    ReturnsInHanded {} Try.checked os 6 .any (Rows.wordShiftsSpec.pre6 enc Try.prog Try.f6 Rows.wordShiftsRow.domain false) (Rows.wordShiftsSpec.post enc Try.prog Try.f6 false true false false) := by
  refine returnsInHanded_of_change (C := Try.checked) own started (by kernel_rfl) Try.func6
    (ChangeSpec.witness6 (enc := enc) (C := Try.checked) false ⟨#[], #[.int .i64 0, .int .u64 0, .int .u8 0], []⟩ 8 (by kernel_rfl) (by kernel_rfl) (by kernel_rfl) (by kernel_rfl)) ?_
  intro W base args ds gs before hval0 hW hcnd _
  have hval : ∀ (j : Nat) t v, Try.f6.params[j]? = some t → args[j]? = some v → Value.okWide Try.prog W .any base t v := hval0
  have hW' := hW
  obtain ⟨p, q, hA0, hV, rfl, hfz, hnd⟩ := hW
  have hA : DataW.TrodAll enc Try.prog W 0 (fun _ => true) true Try.f6.params.toList args.toList ds p := hA0
  rw [Try.params6] at hA hval
  obtain ⟨v0, vs0, d0, ds0, p0, q0, hargs, rfl, rfl, h0, r0⟩ := trodAll_cons hA
  obtain ⟨v1, vs1, d1, ds1, p1, q1, rfl, rfl, rfl, h1, r1⟩ := trodAll_cons r0
  obtain ⟨v2, vs2, d2, ds2, p2, q2, rfl, rfl, rfl, h2, r2⟩ := trodAll_cons r1
  obtain ⟨rfl, rfl, rfl⟩ := trodAll_nil r2
  obtain rfl : args = #[v0, v1, v2] := by cases args; simp_all
  obtain ⟨rfl, rfl⟩ := trodVars_none hV
  obtain ⟨a0, rfl, rfl, rfl, w0⟩ := open_int Try.underlying3 (hval 0 3 v0 rfl rfl) h0
  obtain ⟨a1, rfl, rfl, rfl, w1⟩ := open_int Try.underlying22 (hval 1 22 v1 rfl rfl) h1
  obtain ⟨a2, rfl, rfl, rfl, w2⟩ := open_int Try.underlying5 (hval 2 5 v2 rfl rfl) h2
  clear hA0 hval0
  simp only [List.append_nil] at hW'
  refine (walk a0 a1 a2 w0 w1 w2 W).mono fun e W' ⟨he, hg⟩ => ?_
  subst he
  exact ⟨_, rfl, post_of_same (pa := []) (pv := []) hW' (fun _ _ _ => (trodAll_cons_mk (shut_bool Try.underlying4 _) trodAll_mk0)) (fun sp _ => (trodAll_cons_mk (shut_int Try.underlying3 w0) (trodAll_cons_mk (shut_int Try.underlying22 w1) (trodAll_cons_mk (shut_int Try.underlying5 w2) trodAll_mk0)))) (fun _ _ => rfl) rfl
    (hg.frame _) hg.2.1 (ok_one (by kernel_rfl) rfl (okWide_bool_mk Try.underlying4 _))⟩

theorem over : Rows.wordShiftsRow.holds Try.pinned (OpenSpec.ofChange Rows.wordShiftsSpec) :=
  OpenClaim.holds_of_wide 6 Try.f6 rfl rfl rfl rfl rfl rfl rfl ⟨rfl, rfl, rfl, rfl, rfl⟩ rfl rfl rfl rfl rfl (by kernel_rfl) Try.func6 (by kernel_rfl)
    (of_decide_eq_true (by kernel_rfl)) (by unfold Func.isWrapper; first | (rw [if_pos (by decide +kernel)]; kernel_rfl) | (rw [if_neg (by decide +kernel)]; exact ⟨rfl, rfl⟩))
    (fun os started H enc _ => lifted os started H enc)

/-- ████ THE STATEMENT ████ -/
theorem proved : Rows.WordShiftsSaid :=
  over
#print axioms proved
end Go.Proofs.Ytmdopndlnnapiaa.wordShifts
