/-
  The walk of the law on a term's parts.
-/
import Derived.Test.YtfehmbcgehflmaaTmL0
namespace Go.Proofs.Ytfehmbcgehflmaa
set_option linter.unusedSimpArgs false
set_option linter.unusedVariables false
open Go.RowKit Go.Maps

theorem Tm.fltAt_take {X : List Tm.Nd} {k j : Nat} (hj : j < k) (hk : k ≤ X.length) : Tm.fltAt (X.take k) j = Tm.fltAt X j := by
  conv => rhs; rw [← List.take_append_drop k X]
  rw [Tm.fltAt_app (by rw [List.length_take]; omega)]
/-- What a check says, at once. -/
theorem Tm.chk_cases (X : List Tm.Nd) : (X.length = 0 ∧ Tm.chk X = (11, 0)) ∨ (∃ k, k < X.length ∧ Tm.fltAt X k ≠ 0 ∧ Tm.Ok X k ∧ Tm.chk X = (Tm.fltAt X k, (k : Int))) ∨ (0 < X.length ∧ Tm.Ok X X.length ∧ Tm.chk X = (0, 0)) := by
  by_cases h0 : X.length = 0
  · exact .inl ⟨h0, Tm.chk_nil h0⟩
  · by_cases h : Tm.Ok X X.length
    · exact .inr (.inr ⟨by omega, h, Tm.chk_ok (by omega) h⟩)
    · have hex : ∃ k, k < X.length ∧ Tm.fltAt X k ≠ 0 := by
        apply Classical.byContradiction
        intro hn
        exact h fun j hj => Classical.byContradiction fun hj' => hn ⟨j, hj, hj'⟩
      obtain ⟨k, hk, hf⟩ := hex
      induction k using Nat.strongRecOn with
      | ind k ih =>
        by_cases ha : Tm.Ok X k
        · exact .inr (.inl ⟨k, hk, hf, ha, Tm.chk_bad hk hf ha⟩)
        · have hex : ∃ j, j < k ∧ Tm.fltAt X j ≠ 0 := by
            apply Classical.byContradiction
            intro hn
            exact ha fun j hj => Classical.byContradiction fun hj' => hn ⟨j, hj, hj'⟩
          obtain ⟨j, hj, hfj⟩ := hex
          exact ih j hj (by omega) hfj
/-- The law, in plain words. -/
def Tm.parts (X : List Tm.Nd) (k : Nat) (nd : Tm.Nd) : Prop :=
  (((Tm.chk X).1 == 0) && (((Tm.chk (X.take k)).1 != 0) || ((Tm.chk (X.take k)).2 != 0)) || ((Tm.chk (X.take k)).1 != 0) && (((Tm.chk X).1 != (Tm.chk (X.take k)).1) || ((Tm.chk X).2 != (Tm.chk (X.take k)).2))) = false ∧
  (((Tm.chk X).1 != 0) && ((Tm.chk (X ++ [nd])).1 == (Tm.chk X).1) && ((Tm.chk (X ++ [nd])).2 == (Tm.chk X).2) || ((Tm.chk X).1 == 0) && (((Tm.chk (X ++ [nd])).1 == 0) && ((Tm.chk (X ++ [nd])).2 == 0) || ((Tm.chk (X ++ [nd])).1 != 0) && ((Tm.chk (X ++ [nd])).2 == (X.length : Int)))) = true
theorem Tm.parts_all (X : List Tm.Nd) (k : Nat) (nd : Tm.Nd) (h1 : 1 ≤ k) (hk : k ≤ X.length) : Tm.parts X k nd := by
  have hlt : (X.take k).length = k := by rw [List.length_take]; omega
  rcases Tm.chk_cases X with ⟨h0, _⟩ | ⟨j, hj, hf, ha, e⟩ | ⟨h0, ha, e⟩
  · omega
  · have ea : Tm.chk (X ++ [nd]) = (Tm.fltAt X j, (j : Int)) := by
      have := Tm.chk_bad (X := X ++ [nd]) (k := j) (by simp; omega) (by rw [Tm.fltAt_app hj]; exact hf) (fun i hi => by rw [Tm.fltAt_app (by omega)]; exact ha i hi)
      rw [this, Tm.fltAt_app hj]
    by_cases hjk : j < k
    · have et : Tm.chk (X.take k) = (Tm.fltAt X j, (j : Int)) := by
        have := Tm.chk_bad (X := X.take k) (k := j) (by omega) (by rw [Tm.fltAt_take hjk hk]; exact hf) (fun i hi => by rw [Tm.fltAt_take (by omega) hk]; exact ha i hi)
        rw [this, Tm.fltAt_take hjk hk]
      unfold Tm.parts
      rw [e, ea, et]
      simp [hf]
    · have et : Tm.chk (X.take k) = (0, 0) := Tm.chk_ok (by omega) (fun i hi => by rw [Tm.fltAt_take (by omega) hk]; exact ha i (by omega))
      unfold Tm.parts
      rw [e, ea, et]
      simp [hf]
  · have et : Tm.chk (X.take k) = (0, 0) := Tm.chk_ok (by omega) (fun i hi => by rw [Tm.fltAt_take (by omega) hk]; exact ha i (by omega))
    by_cases hf : Tm.flt nd X.length X = 0
    · have ea : Tm.chk (X ++ [nd]) = (0, 0) := Tm.chk_ok (by simp) (ha.app hf)
      unfold Tm.parts
      rw [e, ea, et]
      simp
    · have ea : Tm.chk (X ++ [nd]) = (Tm.flt nd X.length X, (X.length : Int)) := by
        have := Tm.chk_bad (X := X ++ [nd]) (k := X.length) (by simp) (by rw [Tm.fltAt_last]; exact hf) (fun i hi => by rw [Tm.fltAt_app hi]; exact ha i hi)
        rw [this, Tm.fltAt_last]
      unfold Tm.parts
      rw [e, ea, et]
      simp [hf]
end Go.Proofs.Ytfehmbcgehflmaa
