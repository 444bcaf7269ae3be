/-
  Put, in plain words: each node is made, its kids being where they were made; that goes always.
-/
import Derived.Test.YtfehmbcgehflmaaTmL3
namespace Go.Proofs.Ytfehmbcgehflmaa
set_option linter.unusedSimpArgs false
set_option linter.unusedVariables false
open Go.RowKit Go.Maps

/-- Put, so far: the nodes, and where each went. -/
def Tm.pst (X L : List Tm.Nd) : Nat → List Tm.Nd × (Nat → Int)
  | 0 => (X, fun _ => 0)
  | k + 1 => ((Tm.mk (Tm.pst X L k).1 (Tm.mvd (L.getD k Tm.z) (Tm.pst X L k).2)).1, fun j => if j = k then (Tm.mk (Tm.pst X L k).1 (Tm.mvd (L.getD k Tm.z) (Tm.pst X L k).2)).2.1 else (Tm.pst X L k).2 j)
/-- The places are such. -/
def Tm.PI (L Y : List Tm.Nd) (at' : Nat → Int) (k : Nat) : Prop := ∀ j, j < k → ∃ i : Nat, at' j = (i : Int) ∧ i < Y.length ∧ (Y.getD i Tm.z).w = (L.getD j Tm.z).w
theorem Tm.mk_in {X : List Tm.Nd} {nd : Tm.Nd} (h : nd ∈ X) : Tm.mk X nd = (X, (X.idxOf nd : Int), 0) := if_pos h
theorem Tm.mk_new {X : List Tm.Nd} {nd : Tm.Nd} (h : nd ∉ X) (hf : Tm.flt nd X.length X = 0) : Tm.mk X nd = (X ++ [nd], (X.length : Int), 0) := by
  rw [Tm.mk, if_neg h, if_neg (by rw [hf]; simp)]
theorem Tm.getD_idxOf : ∀ {X : List Tm.Nd} {nd : Tm.Nd}, nd ∈ X → X.idxOf nd < X.length ∧ X.getD (X.idxOf nd) Tm.z = nd
  | [], _, h => absurd h (by simp)
  | x :: r, nd, h => by
    by_cases e : x = nd
    · subst e
      simp
    · have h' : nd ∈ r := by
        rcases List.mem_cons.1 h with h | h
        · exact absurd h.symm e
        · exact h
      obtain ⟨h1, h2⟩ := Tm.getD_idxOf h'
      have e' : (x == nd) = false := by simpa using e
      rw [List.idxOf_cons, e']
      refine ⟨?_, h2⟩
      show r.idxOf nd + 1 < r.length + 1
      omega
/-- What is made is there, at its place; nothing goes, and places stay. -/
structure Tm.Made (X Y : List Tm.Nd) (nd : Tm.Nd) (p : Int) : Prop where
  ex : ∃ i : Nat, p = (i : Int) ∧ i < Y.length ∧ Y.getD i Tm.z = nd
  pre : X <+: Y
theorem Tm.mk_made {X : List Tm.Nd} {nd : Tm.Nd} (hf : Tm.flt nd X.length X = 0) : (Tm.mk X nd).2.2 = 0 ∧ Tm.Made X (Tm.mk X nd).1 nd (Tm.mk X nd).2.1 := by
  by_cases h : nd ∈ X
  · rw [Tm.mk_in h]
    obtain ⟨h1, h2⟩ := Tm.getD_idxOf h
    exact ⟨rfl, ⟨_, rfl, h1, h2⟩, List.prefix_refl X⟩
  · rw [Tm.mk_new h hf]
    refine ⟨rfl, ⟨X.length, rfl, by simp, ?_⟩, List.prefix_append X [nd]⟩
    simp [List.getD_eq_getElem?_getD]
theorem Tm.pre_getD {X Y : List Tm.Nd} (h : X <+: Y) {i : Nat} (hi : i < X.length) : Y.getD i Tm.z = X.getD i Tm.z := by
  obtain ⟨Z, rfl⟩ := h
  rw [List.getD_eq_getElem?_getD, List.getD_eq_getElem?_getD, List.getElem?_append_left hi]
theorem Tm.mvd_kok {nd : Tm.Nd} {at' : Nat → Int} {k n : Nat} (hk : Tm.kok nd k = true) (ha : ∀ j, j < k → 0 ≤ at' j ∧ at' j < n) : Tm.kok (Tm.mvd nd at') n = true := by
  obtain ⟨k0, k1, k2⟩ := Tm.kok_in hk
  unfold Tm.kok at hk ⊢
  simp only [Bool.and_eq_true] at hk ⊢
  show (if 1 ≤ Tm.kidn nd.op then Tm.inn (Tm.mvd nd at').a n else (Tm.mvd nd at').a == 0) = true ∧ (if 2 ≤ Tm.kidn nd.op then Tm.inn (Tm.mvd nd at').b n else (Tm.mvd nd at').b == 0) = true ∧ (if 3 ≤ Tm.kidn nd.op then Tm.inn (Tm.mvd nd at').c n else (Tm.mvd nd at').c == 0) = true
  refine ⟨?_, ?_, ?_⟩
  · split
    · rename_i c
      have := k0 c
      simp only [Tm.mvd, c, if_true]
      exact Tm.inn_iff.2 (ha _ (by omega))
    · rename_i c
      rw [if_neg c] at hk
      simp only [Tm.mvd, c, if_false]
      exact hk.1
  · split
    · rename_i c
      have := k1 c
      simp only [Tm.mvd, c, if_true]
      exact Tm.inn_iff.2 (ha _ (by omega))
    · rename_i c
      rw [if_neg c] at hk
      simp only [Tm.mvd, c, if_false]
      exact hk.2.1
  · split
    · rename_i c
      have := k2 c
      simp only [Tm.mvd, c, if_true]
      exact Tm.inn_iff.2 (ha _ (by omega))
    · rename_i c
      rw [if_neg c] at hk
      simp only [Tm.mvd, c, if_false]
      exact hk.2.2
/-- A node whose kids have moved, with their widths, is right where it was right. -/
theorem Tm.mvd_flt {L Y : List Tm.Nd} {at' : Nat → Int} {k : Nat} {nd : Tm.Nd} (h : Tm.flt nd k L = 0) (hp : Tm.PI L Y at' k) : Tm.flt (Tm.mvd nd at') Y.length Y = 0 := by
  obtain ⟨o0, o1, hk, hw, hn⟩ := Tm.flt_zero h
  obtain ⟨k0, k1, k2⟩ := Tm.kok_in hk
  have hwd : ∀ a : Int, 0 ≤ a → a < k → Tm.wd Y (at' a.toNat) = Tm.wd L a := fun a h0 h1 => by
    obtain ⟨i, e, _, hi⟩ := hp a.toNat (by omega)
    unfold Tm.wd
    rw [e, Int.toNat_natCast]
    exact hi
  have hkk : Tm.kok (Tm.mvd nd at') Y.length = true := Tm.mvd_kok hk fun j hj => by
    obtain ⟨i, e, hi, _⟩ := hp j hj
    omega
  have e0 : Tm.w0 (Tm.mvd nd at') Y = Tm.w0 nd L := by
    show (if 1 ≤ Tm.kidn nd.op then Tm.wd Y (Tm.mvd nd at').a else 0) = (if 1 ≤ Tm.kidn nd.op then Tm.wd L nd.a else 0)
    split
    · rename_i c
      simp only [Tm.mvd, c, if_true]
      exact hwd _ (k0 c).1 (k0 c).2
    · rfl
  have e1 : Tm.w1 (Tm.mvd nd at') Y = Tm.w1 nd L := by
    show (if 2 ≤ Tm.kidn nd.op then Tm.wd Y (Tm.mvd nd at').b else 0) = (if 2 ≤ Tm.kidn nd.op then Tm.wd L nd.b else 0)
    split
    · rename_i c
      simp only [Tm.mvd, c, if_true]
      exact hwd _ (k1 c).1 (k1 c).2
    · rfl
  have e2 : Tm.w2 (Tm.mvd nd at') Y = Tm.w2 nd L := by
    show (if 3 ≤ Tm.kidn nd.op then Tm.wd Y (Tm.mvd nd at').c else 0) = (if 3 ≤ Tm.kidn nd.op then Tm.wd L nd.c else 0)
    split
    · rename_i c
      simp only [Tm.mvd, c, if_true]
      exact hwd _ (k2 c).1 (k2 c).2
    · rfl
  unfold Tm.flt
  rw [if_neg (by show ¬ (nd.op < 0 ∨ 24 < nd.op); omega), if_neg (by rw [hkk]; simp), e0, e1, e2, if_neg (by show ¬ Tm.wok nd.op nd.w _ _ _ = false; rw [hw]; simp), if_neg (by show ¬ Tm.nok nd.op nd.w nd.n = false; rw [hn]; simp)]
/-- Put goes always. -/
theorem Tm.pst_all {X L : List Tm.Nd} (hL : Tm.Ok L L.length) : ∀ k, k ≤ L.length → Tm.PI L (Tm.pst X L k).1 (Tm.pst X L k).2 k ∧ X <+: (Tm.pst X L k).1 ∧ (Tm.pst X L k).1.length ≤ X.length + k
  | 0, _ => ⟨fun j hj => absurd hj (by omega), List.prefix_refl X, Nat.le_refl _⟩
  | k + 1, hk => by
    obtain ⟨hp, hx, hl⟩ := Tm.pst_all hL k (by omega)
    have hf : Tm.flt (Tm.mvd (L.getD k Tm.z) (Tm.pst X L k).2) (Tm.pst X L k).1.length (Tm.pst X L k).1 = 0 := Tm.mvd_flt (hL k (by omega)) hp
    obtain ⟨_, hex, hpre⟩ := Tm.mk_made hf
    obtain ⟨i, e, hi, hg⟩ := hex
    refine ⟨fun j hj => ?_, hx.trans hpre, ?_⟩
    · by_cases c : j = k
      · subst c
        refine ⟨i, ?_, hi, ?_⟩
        · simp only [Tm.pst, if_true]; exact e
        · simp only [Tm.pst]; rw [hg]; rfl
      · obtain ⟨i', e', hi', hw⟩ := hp j (by omega)
        refine ⟨i', ?_, Nat.lt_of_lt_of_le hi' hpre.length_le, ?_⟩
        · simp only [Tm.pst, c, if_false]; exact e'
        · simp only [Tm.pst]
          rw [Tm.pre_getD hpre hi']; exact hw
    · have := Tm.mk_len (Tm.pst X L k).1 (Tm.mvd (L.getD k Tm.z) (Tm.pst X L k).2)
      simp only [Tm.pst]
      omega
theorem Tm.pst_flt {X L : List Tm.Nd} (hL : Tm.Ok L L.length) {k : Nat} (hk : k < L.length) : Tm.flt (Tm.mvd (L.getD k Tm.z) (Tm.pst X L k).2) (Tm.pst X L k).1.length (Tm.pst X L k).1 = 0 :=
  Tm.mvd_flt (hL k hk) (Tm.pst_all hL k (Nat.le_of_lt hk)).1
end Go.Proofs.Ytfehmbcgehflmaa
