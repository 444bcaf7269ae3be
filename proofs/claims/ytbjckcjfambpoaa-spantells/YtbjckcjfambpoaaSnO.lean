/-
  Spans that come in.
-/
import Derived.Test.YtbjckcjfambpoaaSnPl
import Derived.Test.YtbjckcjfambpoaaRows
import Derived.WalkKit
import Derived.Deep.Slices
import Derived.ProofKit
import Derived.OpenShut
namespace Go.Proofs.Ytbjckcjfambpoaa
set_option linter.unusedSimpArgs false
set_option linter.unusedVariables false
open Go.RowKit Go.ChangeShapes Go.WideShapes Go.ChangeAt Go.Deep
set_option maxRecDepth 100000

namespace Sn
/-- A span as a value. -/
abbrev v (s : S) : Value := .agg #[.int .u64 s.1, .int .u64 s.2]
/-- Both its ends are of 64 bits. -/
def U (s : S) : Prop := (0 ≤ s.1 ∧ s.1 < 18446744073709551616) ∧ (0 ≤ s.2 ∧ s.2 < 18446744073709551616)
theorem Ok.u {a : Int} {s : S} (h : Ok a s) : U s := by have := Wd.msk_hi a; unfold Ok at h; unfold U; omega
end Sn

section
variable {H : Type} {enc : TypeId × Value → H} {W : World} {b : Nat} {sp : Nat → Bool} {hd : Bool}
theorem cellsSpan : Try.prog.cellsOf 24 = 2 := by kernel_rfl
theorem cellsU64 : Try.prog.cellsOf 22 = 1 := by kernel_rfl
theorem span_of_trod {l : List Value} {n : Nat} {y : DataW H × List MemPlace} (h : DataW.trod enc Try.prog W b sp hd n 24 l = some y) :
    ∃ s : Sn.S, l = [.int .u64 s.1, .int .u64 s.2] ∧ Sn.U s := by
  obtain ⟨ys, k, _, _, hl, hy, hf⟩ := DataW.trod_struct Try.underlying24 h
  rw [cellsSpan] at hl
  have g0 := hf 0 _ rfl
  have g1 := hf 1 _ rfl
  match l, hl with
  | [c0, c1], _ =>
    match ys, hy with
    | [y0, y1], _ =>
      simp [cellsU64] at g0 g1
      obtain ⟨n0, e0, _, w0⟩ := DataW.trod_int Try.underlying22 g0
      obtain ⟨n1, e1, _, w1⟩ := DataW.trod_int Try.underlying22 g1
      simp at e0 e1
      subst e0 e1
      refine ⟨⟨n0, n1⟩, rfl, ?_⟩
      have h0 : 0 ≤ n0 ∧ n0 ≤ 18446744073709551615 := by simpa [Lit.wf, IntKind.min, IntKind.max, IntKind.signed, IntKind.bits] using w0
      have h1 : 0 ≤ n1 ∧ n1 ≤ 18446744073709551615 := by simpa [Lit.wf, IntKind.min, IntKind.max, IntKind.signed, IntKind.bits] using w1
      unfold Sn.U; dsimp only; omega
theorem open_span {base : Nat} {v : Value} {d : DataW H} {p : List MemPlace} (hv : Value.okWide Try.prog W .any base 24 v) (h : DataW.Trod enc Try.prog W b sp hd 24 v d p) :
    ∃ s : Sn.S, v = Sn.v s ∧ Sn.U s := by
  obtain ⟨cs, rfl, hsz⟩ := okWide_struct Try.underlying24 hv
  obtain ⟨fuel, hf⟩ := h
  obtain ⟨s, he, hu⟩ := span_of_trod hf
  refine ⟨s, ?_, hu⟩
  obtain ⟨l⟩ := cs
  have e' : l = [.int .u64 s.1, .int .u64 s.2] := by simpa [Value.cells] using he
  subst e'
  rfl
end
end Go.Proofs.Ytbjckcjfambpoaa
