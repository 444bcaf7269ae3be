/-
  Two instructions held against each other; Put's answer whatever the instruction; a row with one byte turned.
-/
import Derived.Test.YtjadiijjahjjoaaDoorCdP1
namespace Go.Proofs.YtjadiijjahjjoaaDoor
open Go.RowKit

/-- Are two instructions the same? -/
def Cd.same (op a b c m op' a' b' c' m' : Int) : Bool := decide (op = op' ∧ a = a' ∧ b = b' ∧ c = c' ∧ m = m')
theorem eql_ins (op a b c m op' a' b' c' m' : Int) (W : World) :
    (binOp .eql 43 (.agg #[.int .i64 op, .int .i64 a, .int .i64 b, .int .i64 c, .int .u64 m]) (.agg #[.int .i64 op', .int .i64 a', .int .i64 b', .int .i64 c', .int .u64 m'])).run Tryd.prog W =
      .ok (.bool (Cd.same op a b c m op' a' b' c' m')) W := by
  have h := Tryd.underlying43
  go_simp
  unfold Cd.same
  repeat' split
  all_goals simp_all
theorem neq_ins (op a b c m op' a' b' c' m' : Int) (W : World) :
    (binOp .neq 43 (.agg #[.int .i64 op, .int .i64 a, .int .i64 b, .int .i64 c, .int .u64 m]) (.agg #[.int .i64 op', .int .i64 a', .int .i64 b', .int .i64 c', .int .u64 m'])).run Tryd.prog W =
      .ok (.bool (!Cd.same op a b c m op' a' b' c' m')) W := by
  have h := Tryd.underlying43
  go_simp
  unfold Cd.same
  repeat' split
  all_goals simp_all

/-- Put's bytes as a string: empty where the instruction isn't so. -/
def Cd.st (op a b c m : Int) : ByteArray := if Cd.bad op a b c m = -1 then strOfNums (Cd.bts op a b c m) else ByteArray.empty
def PutU (op a b c m : Int) (w : World) (e : Ending) (w' : World) : Prop :=
  ∃ X, e = .returned (.tuple #[X, .int .i64 (Cd.er (Cd.bad op a b c m))]) ∧ Below w.heap.size w w' ∧
    ∀ w'', Below w'.heap.size w' w'' → ∀ n, (convert 22 9 X).run Tryd.prog (w''.drewN n) = .ok (.string (Cd.st op a b c m)) (w''.drewN n)
theorem put_uni (op a b c m : Int) (w : World) (ho : Ops w) (m0 : 0 ≤ m) (m1 : m < 18446744073709551616) :
    Calls Tryd.prog 21 #[.agg #[.int .i64 op, .int .i64 a, .int .i64 b, .int .i64 c, .int .u64 m]] w (PutU op a b c m w) := by
  by_cases h : Cd.bad op a b c m = -1
  · refine (put_ok op a b c m w ho h m0 m1).mono fun e w' ⟨g, he, hg, hk, hb⟩ => ⟨.slice (some ⟨g, 0, none⟩) 12 12, he.trans (by rw [h]; rfl), hb, fun w'' hw n => ?_⟩
    have hy := Byts.of_blk hk
    have hy2 := hy.below hw (hy.lt (by simp [Cd.bts]))
    rw [Cd.st, if_pos h]
    exact run_convert_bytes_arg (w''.drewN n) 22 5 Tryd.underlying22 Tryd.underlying5 g 0 12 12 (Cd.bts op a b c m) rfl (fun i hi => hy2.at0 i hi) 9 Tryd.underlying9
  · refine (put_bad op a b c m w ho h).mono fun e w' ⟨he, hb⟩ => ⟨_, he, hb, fun w'' hw n => ?_⟩
    rw [Cd.st, if_neg h]
    exact run_convert_bytes_nil (w''.drewN n) 22 5 Tryd.underlying22 Tryd.underlying5 0 0 9 Tryd.underlying9

theorem strOfNums_inj {xs ys : List Int} (hx : ∀ x ∈ xs, 0 ≤ x ∧ x ≤ 255) (hy : ∀ y ∈ ys, 0 ≤ y ∧ y ≤ 255) (h : strOfNums xs = strOfNums ys) : xs = ys := by
  have h' : (xs.map fun n => UInt8.ofNat n.toNat) = ys.map fun n => UInt8.ofNat n.toNat := by
    have := congrArg (fun s : ByteArray => s.data.toList) h
    simpa [strOfNums] using this
  clear h
  induction xs generalizing ys with
  | nil => cases ys with
    | nil => rfl
    | cons => simp at h'
  | cons x xs ih => cases ys with
    | nil => simp at h'
    | cons y ys =>
      simp only [List.map_cons, List.cons.injEq] at h'
      have e := congrArg UInt8.toNat h'.1
      have b1 := hx x (by simp)
      have b2 := hy y (by simp)
      simp at e
      rw [ih (fun z hz => hx z (by simp [hz])) (fun z hz => hy z (by simp [hz])) h'.2]
      have : x = y := by omega
      rw [this]
theorem bts_inj {op a b c m op' a' b' c' m' : Int} (m0 : 0 ≤ m) (m1 : m < 18446744073709551616) (n0 : 0 ≤ m') (n1 : m' < 18446744073709551616) (h : Cd.bts op a b c m = Cd.bts op' a' b' c' m') :
    op = op' ∧ a = a' ∧ b = b' ∧ c = c' ∧ m = m' := by
  simp only [Cd.bts, List.cons.injEq, and_true] at h
  omega
theorem bytes_of_isB {xs : List Int} (h : Cd.isB xs) : ∀ x ∈ xs, 0 ≤ x ∧ x ≤ 255 := fun x hx => by
  obtain ⟨i, hi, rfl⟩ := List.getElem_of_mem hx
  have := h i
  rw [List.getD_eq_getElem?_getD, List.getElem?_eq_getElem hi] at this
  exact this
theorem st_same {op a b c m op' a' b' c' m' : Int} (h : Cd.bad op a b c m = -1) (h' : Cd.bad op' a' b' c' m' = -1) (m0 : 0 ≤ m) (m1 : m < 18446744073709551616) (n0 : 0 ≤ m') (n1 : m' < 18446744073709551616) :
    ((Cd.st op a b c m).toList == (Cd.st op' a' b' c' m').toList) = Cd.same op a b c m op' a' b' c' m' := by
  rw [Cd.st, if_pos h, Cd.st, if_pos h', Bool.eq_iff_iff]
  unfold Cd.same
  rw [decide_eq_true_iff]
  constructor
  · intro e
    exact bts_inj m0 m1 n0 n1 (strOfNums_inj (bytes_of_isB (isB_bts h)) (bytes_of_isB (isB_bts h')) (bytes_of_beq e))
  · rintro ⟨rfl, rfl, rfl, rfl, rfl⟩
    simp

/-- What Get answers, its parts named. -/
theorem gotL_form (xs : List Int) : ∃ y0 y1 y2 y3 y4 e k : Int, Cd.gotL xs = .tuple #[.agg #[.int .i64 y0, .int .i64 y1, .int .i64 y2, .int .i64 y3, .int .u64 y4], .int .i64 e, .int .i64 k] ∧
    ((e != 0) = true ∨ (e = 0 ∧ y0 = xs.getD 0 0 ∧ y1 = xs.getD 1 0 ∧ y2 = xs.getD 2 0 ∧ y3 = xs.getD 3 0 ∧ y4 = Cd.val xs)) := by
  by_cases h : Cd.bad (xs.getD 0 0) (xs.getD 1 0) (xs.getD 2 0) (xs.getD 3 0) (Cd.val xs) = -1
  · exact ⟨_, _, _, _, _, _, _, gotL_ok h, .inr ⟨rfl, rfl, rfl, rfl, rfl, rfl⟩⟩
  · obtain ⟨e, k, he, hr⟩ := gotL_bad h
    exact ⟨_, _, _, _, _, e, k, hr, .inl he⟩

theorem xor_turn (z y : Int) (z0 : 0 ≤ z) (z1 : z ≤ 255) (y0 : 0 ≤ y) (y1 : y ≤ 255) (hy : y ≠ 0) : 0 ≤ bits .xor .u8 z y ∧ bits .xor .u8 z y ≤ 255 ∧ bits .xor .u8 z y ≠ z := by
  obtain ⟨n, rfl⟩ := Int.eq_ofNat_of_zero_le z0
  obtain ⟨k, rfl⟩ := Int.eq_ofNat_of_zero_le y0
  rw [u8_xor_nat n k (by omega) (by omega)]
  have h1 : n ^^^ k < 2 ^ 8 := Nat.xor_lt_two_pow (by omega) (by omega)
  refine ⟨by omega, by omega, fun e => hy ?_⟩
  have e' : n ^^^ k = n := by omega
  have : n ^^^ (n ^^^ k) = n ^^^ n := by rw [e']
  rw [← Nat.xor_assoc, Nat.xor_self, Nat.zero_xor] at this
  omega

theorem turn_apart (xs : List Int) (n : Nat) (z : Int) (hl : 12 ≤ xs.length) (hB : Cd.isB xs) (hn : n < 12) (hz : z ≠ xs.getD n 0) (hC : Cd.isB (xs.set n z)) :
    Cd.same (xs.getD 0 0) (xs.getD 1 0) (xs.getD 2 0) (xs.getD 3 0) (Cd.val xs) ((xs.set n z).getD 0 0) ((xs.set n z).getD 1 0) ((xs.set n z).getD 2 0) ((xs.set n z).getD 3 0) (Cd.val (xs.set n z)) = false := by
  unfold Cd.same
  rw [decide_eq_false_iff_not]
  rintro ⟨e0, e1, e2, e3, e4⟩
  have h1 := bts_val xs hl hB
  have h2 := bts_val (xs.set n z) (by simpa using hl) hC
  rw [← e0, ← e1, ← e2, ← e3, ← e4, h1] at h2
  have h3 := congrArg (fun l : List Int => l[n]?) h2
  simp only [List.getElem?_take_of_lt hn] at h3
  rw [List.getElem?_set_self (by omega), List.getElem?_eq_getElem (by omega)] at h3
  apply hz
  rw [List.getD_eq_getElem?_getD, List.getElem?_eq_getElem (by omega)]
  simpa using h3.symm
theorem isB_set {xs : List Int} {n : Nat} {z : Int} (h : Cd.isB xs) (z0 : 0 ≤ z) (z1 : z ≤ 255) : Cd.isB (xs.set n z) := fun i => by
  rw [List.getD_eq_getElem?_getD]
  by_cases hi : n = i
  · subst hi
    rcases Nat.lt_or_ge n xs.length with h1 | h1
    · rw [List.getElem?_set_self h1]; exact ⟨z0, z1⟩
    · rw [List.getElem?_eq_none (by simpa using h1)]; exact ⟨by decide, by decide⟩
  · rw [List.getElem?_set_ne hi, ← List.getD_eq_getElem?_getD]; exact h i

/-- A row of bytes of the call's own: its block, its cells, none frozen; with one byte turned. -/
theorem own_row {w : World} {base : Nat} {A : Option Addr} {len cap : Nat} {xs : List Int} (h : w.ownsRow base 5 1 (.slice A len cap) len (xs.map (Value.int .u8))) (h0 : 0 < len) :
    ∃ g, A = some ⟨g, 0, none⟩ ∧ base ≤ g ∧ g < w.heap.size ∧ (∀ i, w.frozen? ⟨g, i, none⟩ = false) ∧ Byts w ⟨g, 0, none⟩ xs := by
  rcases h.2 with ⟨_, h1⟩ | ⟨g, cap', cur, hv, hb, hg, hn, hm, hc, ht⟩
  · omega
  · injection hv with hA
    refine ⟨g, hA, hb, ?_, fun i => by simp [World.frozen?, hg], fun i hi => h.cells (g := g) (by rw [hA]; rfl) i _ (getD_map hi)⟩
    rcases Nat.lt_or_ge g w.heap.size with h1 | h1
    · exact h1
    · rw [Array.getElem?_eq_none h1] at hg; cases hg
theorem byts_turn {w : World} {g n : Nat} {xs : List Int} {z : Int} (h : Byts w ⟨g, 0, none⟩ xs) (hn : n < xs.length) : Byts (w.setCell ⟨g, n, none⟩ (.int .u8 z)) ⟨g, 0, none⟩ (xs.set n z) := Byts.mk0 fun i hi => by
  rw [List.length_set] at hi
  rw [List.getD_eq_getElem?_getD]
  by_cases hin : n = i
  · subst hin
    rw [List.getElem?_set_self hn]
    obtain ⟨v', hv⟩ : ∃ v', w.cell? ⟨g, n, none⟩ = some v' := ⟨_, by have := h.at0 n hn; rwa [Nat.zero_add] at this⟩
    exact World.cell?_setCell_same _ _ _ hv
  · rw [List.getElem?_set_ne hin, ← List.getD_eq_getElem?_getD, World.cell?_setCell_other _ _ _ _ (by intro e; injection e with _ e2; exact hin e2)]
    have := h.at0 i hi
    rwa [Nat.zero_add] at this
end Go.Proofs.YtjadiijjahjjoaaDoor
