/-
  Nodes that come in.
-/
import Derived.Test.YtfehmbcgehflmaaTmA1
import Derived.Deep.Slices
import Derived.ProofKit
import Derived.OpenShut
namespace Go.Proofs.Ytfehmbcgehflmaa
set_option linter.unusedSimpArgs false
set_option linter.unusedVariables false
open Go.RowKit Go.ChangeShapes Go.WideShapes Go.ChangeAt Go.Deep

/-- A slice of nodes, as it comes in. -/
structure NdSl (w : World) (A : Option Addr) (len cap : Nat) (X : List Tm.Nd) : Prop where
  hlen : X.length = len
  nd : NdR w A len cap X
  wf : ∀ x ∈ X, Tm.Wf x
theorem NdSl.below {w w' : World} {A : Option Addr} {len cap : Nat} {X : List Tm.Nd} (h : NdSl w A len cap X) (hb : Below w.heap.size w w') : NdSl w' A len cap X := ⟨h.hlen, h.nd.below hb, h.wf⟩
theorem NdSl.getD {w : World} {A : Option Addr} {len cap : Nat} {X : List Tm.Nd} (h : NdSl w A len cap X) (i : Nat) : Tm.Wf (X.getD i Tm.z) := by
  rw [List.getD_eq_getElem?_getD]
  rcases Nat.lt_or_ge i X.length with h1 | h1
  · rw [List.getElem?_eq_getElem h1]; exact h.wf _ (List.getElem_mem h1)
  · rw [List.getElem?_eq_none h1]; exact Tm.wf_z
theorem NdSl.u {w : World} {A : Option Addr} {len cap : Nat} {X : List Tm.Nd} (h : NdSl w A len cap X) (i : Nat) : Tm.U64 (X.getD i Tm.z).n := (h.getD i).u

section
variable {H : Type} {enc : TypeId × Value → H} {W : World} {b : Nat} {sp : Nat → Bool} {hd : Bool}
theorem cells38 : Try.prog.cellsOf 38 = 6 := by kernel_rfl
theorem cells36 : Try.prog.cellsOf 36 = 3 := by kernel_rfl
theorem cells3 : Try.prog.cellsOf 3 = 1 := by kernel_rfl
theorem cells35 : Try.prog.cellsOf 35 = 1 := by kernel_rfl
theorem nd_of_trod {l : List Value} {n : Nat} {y : DataW H × List MemPlace} (h : DataW.trod enc Try.prog W b sp hd n 38 l = some y) :
    ∃ i : Tm.Nd, l = cells6 i ∧ Tm.Wf i := by
  obtain ⟨ys, k, _, _, hl, hy, hf⟩ := DataW.trod_struct Try.underlying38 h
  rw [cells38] at hl
  have g0 := hf 0 _ rfl
  have g1 := hf 1 _ rfl
  have g2 := hf 2 _ rfl
  have g3 := hf 3 _ rfl
  match l, hl with
  | [c0, c1, c2, c3, c4, c5], _ =>
    match ys, hy with
    | [y0, y1, y2, y3], _ =>
      simp [cells3, cells35, cells36] at g0 g1 g2 g3
      obtain ⟨n0, e0, _, w0⟩ := DataW.trod_int Try.underlying3 g0
      obtain ⟨n1, e1, _, w1⟩ := DataW.trod_int Try.underlying3 g1
      obtain ⟨n2, e2, _, w2⟩ := DataW.trod_int Try.underlying35 g2
      have ga := DataW.trod_array Try.underlying36 g3
      obtain ⟨xs, m, _, _, _, hxl, hi⟩ := ga
      match xs, hxl with
      | [z0, z1, z2], _ =>
        have f0 := hi 0 (by omega)
        have f1 := hi 1 (by omega)
        have f2 := hi 2 (by omega)
        simp [cells3] at f0 f1 f2
        obtain ⟨n3, e3, _, w3⟩ := DataW.trod_int Try.underlying3 f0
        obtain ⟨n4, e4, _, w4⟩ := DataW.trod_int Try.underlying3 f1
        obtain ⟨n5, e5, _, w5⟩ := DataW.trod_int Try.underlying3 f2
        simp at e0 e1 e2 e3 e4 e5
        subst e0 e1 e2 e3 e4 e5
        exact ⟨⟨n0, n1, n2, n3, n4, n5⟩, rfl, ⟨w0, w1, w2, w3, w4, w5⟩⟩
theorem list_of {α : Type} (z : α) {n : Nat} {Q : Nat → α → Prop} (h : ∀ i, i < n → ∃ x, Q i x) : ∃ l : List α, l.length = n ∧ ∀ i, i < n → Q i (l.getD i z) := by
  induction n with
  | zero => exact ⟨[], rfl, fun i hi => absurd hi (by omega)⟩
  | succ n ih =>
    obtain ⟨l, hl, hq⟩ := ih fun i hi => h i (by omega)
    obtain ⟨x, hx⟩ := h n (by omega)
    refine ⟨l ++ [x], by simp [hl], fun i hi => ?_⟩
    rcases Nat.lt_or_ge i n with h1 | h1
    · rw [List.getD_eq_getElem?_getD, List.getElem?_append_left (by omega), ← List.getD_eq_getElem?_getD]
      exact hq i h1
    · obtain rfl : i = n := by omega
      rw [List.getD_eq_getElem?_getD, List.getElem?_append_right (by omega), hl, Nat.sub_self]
      exact hx
/-- A list of nodes that comes in. -/
theorem open_nodes {base : Nat} {v : Value} {d : DataW H} {p : List MemPlace} (hv : Value.okWide Try.prog W .any base 22 v) (h : DataW.Trod enc Try.prog W b sp hd 22 v d p) (hsp : ∀ k, sp k = true) :
    ∃ A len cap X, v = .slice A len cap ∧ NdSl W A len cap X := by
  obtain ⟨A0, len0, cap0, rfl⟩ := okWide_slice Try.underlying22 hv
  obtain ⟨fuel, hf⟩ := h
  rcases open_slice Try.underlying22 hf with ⟨hcs, _⟩ | ⟨a, len, cap, m, k, D, Pl, hcs, _, hl, hm, hmm, _, hi⟩
  · simp [Value.cells] at hcs
    obtain ⟨rfl, rfl, rfl⟩ := hcs
    exact ⟨none, 0, 0, [], rfl, rfl, ⟨Nat.le_refl _, Nat.zero_le _, fun _ => rfl, fun h0 => absurd h0 (by omega)⟩, fun x hx => absurd hx (by simp)⟩
  · simp [Value.cells] at hcs
    obtain ⟨rfl, rfl, rfl⟩ := hcs
    have hmc : m = cap0 := by rw [hmm, hsp]; rfl
    have hel : ∀ i, i < len0 → ∃ x : Tm.Nd, (∀ j, j < 6 → W.cell? ((a.add (i * 6)).add j) = (cells6 x)[j]?) ∧ Tm.Wf x := fun i hlt => by
      obtain ⟨cs', hc, ht⟩ := hi i (by omega)
      rw [cells38] at hc
      obtain ⟨_, _, hat⟩ := World.cells?_some hc
      obtain ⟨x, rfl, h1⟩ := nd_of_trod ht
      exact ⟨x, fun j hj => hat j hj, h1⟩
    obtain ⟨X, hcl, hq⟩ := list_of Tm.z hel
    refine ⟨some a, len0, cap0, X, rfl, hcl, ⟨hl, hm, fun e => by simp at e, fun h0 => ?_⟩, fun x hx => ?_⟩
    · obtain ⟨b', o, spot⟩ := a
      have h00 := (hq 0 h0).1 0 (by omega)
      have hspot : spot = none := by
        have h1 : W.cell? (⟨b', o, spot⟩ : Addr) = some (.int .i64 (X.getD 0 Tm.z).op) := by simpa [Addr.add, cells6] using h00
        simpa using World.cell?_spot h1
      subst hspot
      refine ⟨b', o, rfl, ?_, fun i hlt => ?_⟩
      · rcases Nat.lt_or_ge b' W.heap.size with h2 | h2
        · exact h2
        · simp [World.cell?, Addr.add, Array.getElem?_eq_none h2, cells6] at h00
      · have e : ∀ j, j < 6 → W.cell? ⟨b', o + i * 6 + j, none⟩ = (cells6 (X.getD i Tm.z))[j]? := fun j hj => by
          have := (hq i hlt).1 j hj
          rwa [add_at, add_at] at this
        exact ⟨e 0 (by omega), e 1 (by omega), e 2 (by omega), e 3 (by omega), e 4 (by omega), e 5 (by omega)⟩
    · obtain ⟨i, hi', rfl⟩ := List.mem_iff_getElem.1 hx
      have := (hq i (by omega)).2
      rw [List.getD_eq_getElem?_getD, List.getElem?_eq_getElem hi'] at this
      exact this
/-- A node that comes in. -/
theorem open_node {base : Nat} {v : Value} {d : DataW H} {p : List MemPlace} (hv : Value.okWide Try.prog W .any base 38 v) (h : DataW.Trod enc Try.prog W b sp hd 38 v d p) : ∃ nd : Tm.Nd, v = ndv nd ∧ Tm.Wf nd := by
  obtain ⟨cs, rfl, hsz⟩ := okWide_struct Try.underlying38 hv
  obtain ⟨fuel, hf⟩ := h
  obtain ⟨nd, e, hw⟩ := nd_of_trod hf
  refine ⟨nd, ?_, hw⟩
  obtain ⟨l⟩ := cs
  have e' : l = cells6 nd := by simpa [Value.cells] using e
  subst e'
  rfl
end
end Go.Proofs.Ytfehmbcgehflmaa
