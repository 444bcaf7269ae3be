/-
  What was put stays: put again it is found; terms hang on what stands ahead alone.
-/
import Derived.Test.YtfehmbcgehflmaaTmP3
namespace Go.Proofs.Ytfehmbcgehflmaa
set_option linter.unusedSimpArgs false
set_option linter.unusedVariables false
open Go.RowKit Go.Maps

theorem Tm.mvd_congr {nd : Tm.Nd} {f h : Nat → Int} {k : Nat} (hk : Tm.kok nd k = true) (he : ∀ j, j < k → f j = h j) : Tm.mvd nd f = Tm.mvd nd h := by
  obtain ⟨k0, k1, k2⟩ := Tm.kok_in hk
  unfold Tm.mvd
  congr 1
  · split
    · rename_i c; exact he _ (by have := k0 c; omega)
    · rfl
  · split
    · rename_i c; exact he _ (by have := k1 c; omega)
    · rfl
  · split
    · rename_i c; exact he _ (by have := k2 c; omega)
    · rfl
theorem Tm.nodup_idx {X : List Tm.Nd} (hn : X.Nodup) {i : Nat} (hi : i < X.length) {nd : Tm.Nd} (e : X.getD i Tm.z = nd) : nd ∈ X ∧ X.idxOf nd = i := by
  refine Tm.idx_at hi e fun j hj e2 => ?_
  have h1 : X[j]'(by omega) = X[i] := by
    rw [List.getD_eq_getElem?_getD, List.getElem?_eq_getElem hi] at e
    rw [List.getD_eq_getElem?_getD, List.getElem?_eq_getElem (by omega)] at e2
    exact e2.trans e.symm
  exact absurd h1 ((List.pairwise_iff_getElem.1 hn) j i (by omega) hi hj)
theorem Tm.pst_mono {X L : List Tm.Nd} (hL : Tm.Ok L L.length) {k : Nat} : ∀ m, k ≤ m → m ≤ L.length → (Tm.pst X L k).1 <+: (Tm.pst X L m).1
  | 0, h, _ => by
    obtain rfl : k = 0 := by omega
    exact List.prefix_refl _
  | m + 1, h, hm => by
    rcases Nat.lt_or_ge k (m + 1) with h1 | h1
    · have hp := (Tm.mk_made (Tm.pst_flt (X := X) hL (k := m) (by omega))).2.pre
      exact (Tm.pst_mono hL m (by omega) (by omega)).trans hp
    · obtain rfl : k = m + 1 := by omega
      exact List.prefix_refl _
/-- Where the k-th node went. -/
theorem Tm.pst_place {X L : List Tm.Nd} (hL : Tm.Ok L L.length) {k : Nat} (hk : k < L.length) : ∃ i : Nat, (Tm.pst X L (k + 1)).2 k = (i : Int) ∧ i < (Tm.pst X L (k + 1)).1.length ∧ (Tm.pst X L (k + 1)).1.getD i Tm.z = Tm.mvd (L.getD k Tm.z) (Tm.pst X L k).2 := by
  obtain ⟨i, e, hi, hg⟩ := (Tm.mk_made (Tm.pst_flt (X := X) hL hk)).2.ex
  exact ⟨i, by simp only [Tm.pst, if_true]; exact e, hi, hg⟩
/-- Put again, behind whatever was made since, it is found where it was. -/
theorem Tm.pst_again {X Z L : List Tm.Nd} (hL : Tm.Ok L L.length) (hp : (Tm.pst X L L.length).1 <+: Z) (hn : Z.Nodup) : ∀ k, k ≤ L.length → (Tm.pst Z L k).1 = Z ∧ ∀ j, j < k → (Tm.pst Z L k).2 j = (Tm.pst X L k).2 j
  | 0, _ => ⟨rfl, fun j hj => absurd hj (by omega)⟩
  | k + 1, hk => by
    obtain ⟨h1, h2⟩ := Tm.pst_again hL hp hn k (by omega)
    have hkok := (Tm.flt_zero (hL k (by omega))).2.2.1
    obtain ⟨i, e, hi, hg⟩ := Tm.pst_place (X := X) hL (k := k) (by omega)
    have hpre : (Tm.pst X L (k + 1)).1 <+: Z := (Tm.pst_mono hL L.length (by omega) (Nat.le_refl _)).trans hp
    have hiz : i < Z.length := Nat.lt_of_lt_of_le hi hpre.length_le
    have hgz : Z.getD i Tm.z = Tm.mvd (L.getD k Tm.z) (Tm.pst Z L k).2 := by
      rw [Tm.pre_getD hpre hi, hg]
      exact Tm.mvd_congr hkok (fun j hj => (h2 j hj).symm)
    obtain ⟨hm, hx⟩ := Tm.nodup_idx hn hiz hgz
    have hmk : Tm.mk (Tm.pst Z L k).1 (Tm.mvd (L.getD k Tm.z) (Tm.pst Z L k).2) = (Z, (i : Int), 0) := by
      rw [h1, Tm.mk_in hm, hx]
    refine ⟨?_, fun j hj => ?_⟩
    · show (Tm.mk (Tm.pst Z L k).1 (Tm.mvd (L.getD k Tm.z) (Tm.pst Z L k).2)).1 = Z
      rw [hmk]
    · by_cases c : j = k
      · subst c
        rw [e]
        show (if j = j then (Tm.mk (Tm.pst Z L j).1 (Tm.mvd (L.getD j Tm.z) (Tm.pst Z L j).2)).2.1 else (Tm.pst Z L j).2 j) = _
        rw [if_pos rfl, hmk]
      · show (if j = k then _ else (Tm.pst Z L k).2 j) = (if j = k then _ else (Tm.pst X L k).2 j)
        rw [if_neg c, if_neg c]
        exact h2 j (by omega)
theorem Tm.put_again {X Z L : List Tm.Nd} (hc : (Tm.chk L).1 = 0) (hp : Tm.putL X L <+: Z) (hn : Z.Nodup) : Tm.putL Z L = Z ∧ Tm.putR Z L = Tm.putR X L := by
  obtain ⟨h0, hok⟩ := Tm.chk_ok_iff hc
  rw [Tm.putL, if_pos hc] at hp
  obtain ⟨h1, h2⟩ := Tm.pst_again hok hp hn L.length (Nat.le_refl _)
  rw [Tm.putL, Tm.putR, Tm.putR, if_pos hc, if_pos hc, if_pos hc]
  exact ⟨h1, h2 _ (by omega)⟩

theorem Tm.hgo_congr {X Y : List Tm.Nd} : ∀ n F, (∀ i, i < n → X.getD i Tm.z = Y.getD i Tm.z) → Tm.hgo X n F = Tm.hgo Y n F
  | 0, _, _ => rfl
  | n + 1, F, h => by
    rw [Tm.hgo, Tm.hgo, h n (by omega)]
    exact Tm.hgo_congr n _ (fun i hi => h i (by omega))
theorem Tm.tst_congr {X Y : List Tm.Nd} {F : Nat → Bool} : ∀ n, (∀ i, i < n → X.getD i Tm.z = Y.getD i Tm.z) → Tm.tst X F n = Tm.tst Y F n
  | 0, _ => rfl
  | n + 1, h => by
    have ih := Tm.tst_congr (F := F) n (fun i hi => h i (by omega))
    by_cases c : F n = true
    · rw [Tm.tst_yes c, Tm.tst_yes c, ih, h n (by omega)]
    · rw [Tm.tst_no (by simpa using c), Tm.tst_no (by simpa using c), ih]
theorem Tm.term_pre {X Y : List Tm.Nd} (h : X <+: Y) {p : Nat} (hp : p < X.length) : Tm.term Y p = Tm.term X p := by
  have he : ∀ i, i < p + 1 → Y.getD i Tm.z = X.getD i Tm.z := fun i hi => Tm.pre_getD h (by omega)
  unfold Tm.term Tm.hang
  rw [Tm.hgo_congr _ _ he, Tm.tst_congr _ he]
theorem Tm.hgo_keeps {X : List Tm.Nd} {i : Nat} : ∀ n F, F i = true → Tm.hgo X n F i = true
  | 0, _, h => h
  | n + 1, F, h => by
    rw [Tm.hgo]
    apply Tm.hgo_keeps n
    split
    · simp [Tm.mark, h]
    · exact h
theorem Tm.term_pos (X : List Tm.Nd) (p : Nat) : 0 < (Tm.term X p).length := by
  have h : Tm.hang X p p = true := Tm.hgo_keeps (p + 1) _ (by simp)
  unfold Tm.term
  rw [Tm.tst_yes h]
  simp
theorem Tm.mk_pre (X : List Tm.Nd) (nd : Tm.Nd) : X <+: (Tm.mk X nd).1 := by
  unfold Tm.mk
  split
  · exact List.prefix_refl X
  · split
    · exact List.prefix_refl X
    · exact List.prefix_append X [nd]
end Go.Proofs.Ytfehmbcgehflmaa
