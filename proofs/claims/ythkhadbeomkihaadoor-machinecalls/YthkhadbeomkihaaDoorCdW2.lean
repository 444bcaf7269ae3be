/-
  The table of operations as it lies in memory; contracts of what reads it: Name, Op, mended, fault.
-/
import Derived.Test.YthkhadbeomkihaaDoorCdW1
import Derived.StillTailTactics
namespace Go.Proofs.YthkhadbeomkihaaDoor
set_option maxRecDepth 100000
open Go.RowKit

/-- The table of operations lies in the first variable's block: five cells an operation. -/
def Ops (w : World) : Prop := ∀ i, i < 26 → w.cell? ⟨0, i * 5, none⟩ = some (.string (Cd.nm i)) ∧ w.cell? ⟨0, i * 5 + 1, none⟩ = some (.int .u8 (Cd.ka i)) ∧
  w.cell? ⟨0, i * 5 + 2, none⟩ = some (.int .u8 (Cd.kb i)) ∧ w.cell? ⟨0, i * 5 + 3, none⟩ = some (.int .u8 (Cd.kc i)) ∧ w.cell? ⟨0, i * 5 + 4, none⟩ = some (.int .u8 (Cd.ki i))
theorem Ops.pos {w : World} (h : Ops w) : 0 < w.heap.size := by
  rcases Nat.lt_or_ge 0 w.heap.size with h0 | h0
  · exact h0
  · have := (h 0 (by omega)).1
    simp [World.cell?, Array.getElem?_eq_none h0] at this
theorem Ops.below {w w' : World} {n : Nat} (h : Ops w) (hb : Below n w w') (hn : 0 < n) : Ops w' := fun i hi => by
  obtain ⟨h0, h1, h2, h3, h4⟩ := h i hi
  exact ⟨(hb.cell (p := ⟨0, i * 5, none⟩) hn).trans h0, (hb.cell (p := ⟨0, i * 5 + 1, none⟩) hn).trans h1, (hb.cell (p := ⟨0, i * 5 + 2, none⟩) hn).trans h2,
    (hb.cell (p := ⟨0, i * 5 + 3, none⟩) hn).trans h3, (hb.cell (p := ⟨0, i * 5 + 4, none⟩) hn).trans h4⟩

theorem ret_str {a b : ByteArray} (h : a = b) : Ending.returned (.string a) = .returned (.string b) := by rw [h]

/-- The name of any number. -/
def Cd.name (op : Int) : ByteArray := if Cd.exi op = true then Cd.nm op.toNat else ⟨#[]⟩

/-- The place of a name among the names; 26, if it is none. -/
def Cd.idx (s : ByteArray) : Nat := Cd.names.findIdx fun l => l == s.data.toList
def Cd.opB (s : ByteArray) : Bool := decide (Cd.idx s < 26)
def Cd.opI (s : ByteArray) : Int := if Cd.idx s < 26 then Cd.idx s else 0

theorem idx_lt {s : ByteArray} {k : Nat} (hk : k < 26) (he : Cd.nm k = s) (hn : ∀ j, j < k → Cd.nm j ≠ s) : Cd.idx s = k := by
  have hl : Cd.names.length = 26 := rfl
  have hd : ∀ j, (h : j < Cd.names.length) → (Cd.names[j] == s.data.toList) = decide (Cd.nm j = s) := fun j h => by
    rw [Bool.eq_iff_iff, beq_iff_eq, decide_eq_true_iff]
    unfold Cd.nm
    rw [List.getD_eq_getElem?_getD, List.getElem?_eq_getElem h, Option.getD_some]
    constructor
    · intro e; rw [e]
    · intro e; rw [← e]
  unfold Cd.idx
  rw [List.findIdx_eq (by omega)]
  refine ⟨by rw [hd k (by omega)]; simpa using he, fun j hj => ?_⟩
  rw [hd j (by omega)]
  simpa using hn j hj
theorem idx_ge {s : ByteArray} (hn : ∀ j, j < 26 → Cd.nm j ≠ s) : ¬ Cd.idx s < 26 := by
  intro h
  have hl : Cd.names.length = 26 := rfl
  have h1 : Cd.idx s < Cd.names.length := by omega
  have h2 := List.findIdx_getElem (p := fun l => l == s.data.toList) (xs := Cd.names) (w := h1)
  refine hn _ h ?_
  have h3 : Cd.names[Cd.idx s] = s.data.toList := beq_iff_eq.1 h2
  unfold Cd.nm
  rw [List.getD_eq_getElem?_getD, List.getElem?_eq_getElem h1, Option.getD_some, h3]
theorem bytes_of_beq {a b : ByteArray} (h : (a.toList == b.toList) = true) : a = b := by
  have h' : a.toList = b.toList := by simpa using h
  rw [ByteArray.toList_eq, ByteArray.toList_eq] at h'
  exact WideShapes.bytes_inj h'
theorem bytes_of_bne {a b : ByteArray} (h : (a.toList == b.toList) = false) : a ≠ b := by
  intro e
  subst e
  simp at h
/-- A region whose last operations stand in one order, the others only reading: behind the draw. -/
theorem still_tail {P : Program} {id : Nat} {Q : Exit → Act → World → Prop} {a : Act} {w : World} {l : List Oper} (n : Nat) (hm : P.follows .mixedOrders = true) (hB : Region.lexTailB .any l.toArray n = true)
    (h : wpStill P l.toArray w.drew (fun a' => wpList P l.toArray Q (l.drop n) a' w.drew) (l.take n) a) : (Code.region id l.toArray true).wp P Q a w := wp_region_still_tail n hm hB h
theorem ret_op {a : Int} {b : Bool} {c : Int} {d : Bool} (h : a = c) (k : b = d) : Ending.returned (.tuple #[.int .i64 a, .bool b]) = .returned (.tuple #[.int .i64 c, .bool d]) := by rw [h, k]

set_option maxHeartbeats 400000 in
set_option maxRecDepth 20000 in
theorem mended_any (n : Nat) (a b c m : Int) (w : World) (hn : n < 26) (ho : Ops w) :
    Calls Tryd.prog 88 #[.agg #[.int .i64 n, .int .i64 a, .int .i64 b, .int .i64 c, .int .u64 m]] w fun e w' =>
      e = .returned (.agg #[.int .i64 n, .int .i64 (Cd.mp (Cd.ka n) a), .int .i64 (Cd.mp (Cd.kb n) b), .int .i64 (Cd.mp (Cd.kc n) c), .int .u64 (Cd.mi (Cd.ki n) m)]) ∧ Below w.heap.size w w' := by
  have hp := ho.pos
  obtain ⟨h0, h1, h2, h3, h4⟩ := ho n hn
  have P : ∀ (k x : Int) (W : World), Calls Tryd.prog 98 #[.int .u8 k, .int .i64 x] W fun e w' => e = .returned (.int .i64 (Cd.mp k x)) ∧ w' = W := fun k x W => (part_any k x W).mono fun _ _ h => ⟨h.1, h.2.symm⟩
  have HP := Lib.hid P
  clear P
  go_enter Tryd.func88, Tryd.ntmps88
  go_wp2
  refine still_tail 16 (by kernel_rfl) (by kernel_rfl) ?_
  simp only [List.take_succ_cons, List.take_zero, List.drop_succ_cons, List.drop_zero]
  repeat still_step
  still_call (HP.out _ _ _)
  repeat still_step
  still_call (HP.out _ _ _)
  repeat still_step
  still_call (HP.out _ _ _)
  repeat still_step
  refine wpStill_nil ?_
  go_wp2
  · refine bodyPost_ret (v := .agg #[.int .i64 n, .int .i64 (Cd.mp (Cd.ka n) a), .int .i64 (Cd.mp (Cd.kb n) b), .int .i64 (Cd.mp (Cd.kc n) c), .int .u64 0]) (by simp [results, Tryd.results88, go_sem]) rfl ⟨?_, ?_⟩
    · have hz : (Cd.ki n == 0) = true := by assumption
      rw [show Cd.mi (Cd.ki n) m = 0 from by rw [Cd.mi, if_pos (by simpa using hz)]]
    · exact ((((Below.refl _ _).alloc (Nat.le_refl _) _).alloc (by simp) _).alloc (by simp; omega) _).drew
  · refine bodyPost_ret (v := .agg #[.int .i64 n, .int .i64 (Cd.mp (Cd.ka n) a), .int .i64 (Cd.mp (Cd.kb n) b), .int .i64 (Cd.mp (Cd.kc n) c), .int .u64 m]) (by simp [results, Tryd.results88, go_sem]) rfl ⟨?_, ?_⟩
    · have hz : (Cd.ki n == 0) = false := by assumption
      rw [show Cd.mi (Cd.ki n) m = m from by rw [Cd.mi, if_neg (by simpa using hz)]]
    · exact ((((Below.refl _ _).alloc (Nat.le_refl _) _).alloc (by simp) _).alloc (by simp; omega) _).drew
end Go.Proofs.YthkhadbeomkihaaDoor
