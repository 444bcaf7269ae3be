/-
  The contract of Put: an instruction's bytes, in a block of their own.
-/
import Derived.Test.YthkhadbeomkihaaDoorCdW3
import Derived.Deep.RegionHeld3
import Derived.Deep.DrawnRows
import Derived.LoopN
import Derived.Deep.AppendLies
import Derived.Maps.AppendAt
import Derived.Laws.BytesArg
namespace Go.Proofs.YthkhadbeomkihaaDoor
set_option maxRecDepth 100000
open Go.RowKit
attribute [local go_sem ↓] Go.wp_at_zero Go.wp_at_succ

/-- An instruction's bytes. -/
def Cd.bts (op a b c m : Int) : List Int := [op, a, b, c, m / 72057594037927936 % 256, m / 281474976710656 % 256, m / 1099511627776 % 256, m / 4294967296 % 256, m / 16777216 % 256, m / 65536 % 256, m / 256 % 256, m % 256]
/-- A block is just these cells, none of them frozen. -/
def Blk (w : World) (g : Nat) (t : TypeId) (cs : Array Value) : Prop := w.heap[g]? = some (.cells cs t (0, 0))

set_option maxHeartbeats 400000 in
theorem put_bad (op a b c m : Int) (w : World) (ho : Ops w) (hb : Cd.bad op a b c m ≠ -1) :
    Calls Tryd.prog 44 #[.agg #[.int .i64 op, .int .i64 a, .int .i64 b, .int .i64 c, .int .u64 m]] w fun e w' =>
      e = .returned (.tuple #[.slice none 0 0, .int .i64 (Cd.er (Cd.bad op a b c m))]) ∧ Below w.heap.size w w' := by
  have hp := ho.pos
  have HO := Lib.hid (ho.below ((Below.refl w.heap.size w).alloc (Nat.le_refl _) (.cells #[.int .i64 op, .int .i64 a, .int .i64 b, .int .i64 c, .int .u64 m] 59)) hp)
  clear ho
  have he : (Cd.er (Cd.bad op a b c m) != 0) = true := by
    rcases Cd.bad_cases op a b c m with h | h | h | h | h | h <;> rw [h] at hb ⊢ <;> simp [Cd.er] at hb ⊢
  clear hb
  go_enter Tryd.func44, Tryd.ntmps44
  go_wp2_with fail
  refine (fault_any _ _ _ _ _ _ HO.out).mono ?_
  rintro e v ⟨rfl, hbv⟩
  have HB := Lib.hid hbv
  clear hbv
  go_wp2
  go_ret2
  exact ⟨rfl, ((Below.refl _ _).alloc (Nat.le_refl _) _).trans (HB.out.mono (by simp))⟩

set_option maxHeartbeats 1000000 in
theorem put_ok (op a b c m : Int) (w : World) (ho : Ops w) (hb : Cd.bad op a b c m = -1) (m0 : 0 ≤ m) (m1 : m < 18446744073709551616) :
    Calls Tryd.prog 44 #[.agg #[.int .i64 op, .int .i64 a, .int .i64 b, .int .i64 c, .int .u64 m]] w fun e w' =>
      ∃ g, e = .returned (.tuple #[.slice (some ⟨g, 0, none⟩) 12 12, .int .i64 0]) ∧ w.heap.size ≤ g ∧ Blk w' g 5 ((Cd.bts op a b c m).map (Value.int .u8)).toArray ∧ Below w.heap.size w w' := by
  have hp := ho.pos
  have HO := Lib.hid (ho.below ((Below.refl w.heap.size w).alloc (Nat.le_refl _) (.cells #[.int .i64 op, .int .i64 a, .int .i64 b, .int .i64 c, .int .u64 m] 59)) hp)
  clear ho
  obtain ⟨b0, b1, b2, b3, b4, b5, b6, b7⟩ := Cd.bad_none hb
  have HF : ∀ W, Ops W → Calls Tryd.prog 65 #[.agg #[.int .i64 op, .int .i64 a, .int .i64 b, .int .i64 c, .int .u64 m]] W fun e w' =>
      e = .returned (.tuple #[.int .i64 0, .int .i64 0]) ∧ Below W.heap.size W w' := fun W hW => by
    have := fault_any op a b c m W hW
    rw [hb] at this
    exact this
  have HH := Lib.hid HF
  have HM := Lib.hid (And.intro m0 m1)
  clear HF hb m0 m1
  have hmk : ∀ w : World, (Instr.makeSlice 22 (.int .i64 12) (.int .i64 12)).run Tryd.prog w = .ok (.slice (some ⟨w.heap.size, 0, none⟩) 12 12) (w.alloc (.cells #[.int .u8 0, .int .u8 0, .int .u8 0, .int .u8 0, .int .u8 0, .int .u8 0, .int .u8 0, .int .u8 0, .int .u8 0, .int .u8 0, .int .u8 0, .int .u8 0] 5)) := fun _ => by kernel_rfl
  go_enter Tryd.func44, Tryd.ntmps44
  go_wp2_with fail
  refine (HH.out _ HO.out).mono ?_
  rintro e v ⟨rfl, hbv⟩
  have hz : w.heap.size < v.heap.size := by have := hbv.size; simp at this; omega
  have c0 : v.cell? ⟨w.heap.size, 0, none⟩ = some (.int .i64 op) := cells_below hbv (by simp) (by simp)
  have c1 : v.cell? ⟨w.heap.size, 1, none⟩ = some (.int .i64 a) := cells_below hbv (by simp) (by simp)
  have c2 : v.cell? ⟨w.heap.size, 2, none⟩ = some (.int .i64 b) := cells_below hbv (by simp) (by simp)
  have c3 : v.cell? ⟨w.heap.size, 3, none⟩ = some (.int .i64 c) := cells_below hbv (by simp) (by simp)
  have c4 : v.cell? ⟨w.heap.size, 4, none⟩ = some (.int .u64 m) := cells_below hbv (by simp) (by simp)
  have HB := Lib.hid hbv
  clear hbv
  go_wp2
  have hne : w.heap.size ≠ v.heap.size := by omega
  go_region_held3 (fun W => W.cell? ⟨w.heap.size, 0, none⟩ = some (.int .i64 op) ∧ W.cell? ⟨w.heap.size, 1, none⟩ = some (.int .i64 a) ∧ W.cell? ⟨w.heap.size, 2, none⟩ = some (.int .i64 b) ∧ W.cell? ⟨w.heap.size, 3, none⟩ = some (.int .i64 c)) (go_keep) (fail)
  go_wp2
  refine wp_loop_rounds 9 ?_
  rw [rounds_succ]; go_wp2
  rw [rounds_succ]; go_wp2
  rw [rounds_succ]; go_wp2
  rw [rounds_succ]; go_wp2
  rw [rounds_succ]; go_wp2
  rw [rounds_succ]; go_wp2
  rw [rounds_succ]; go_wp2
  rw [rounds_succ]; go_wp2
  rw [rounds_succ]; go_wp2
  go_ret2
  exact ⟨v.heap.size, rfl, by omega, heap_alloc_new v _, ((((Below.refl _ _).alloc (Nat.le_refl _) _).trans (HB.out.mono (by simp))).alloc (by omega) _).drew⟩

/-- From an address on lie these bytes. -/
def Byts (w : World) (p : Addr) (xs : List Int) : Prop := ∀ i, i < xs.length → w.cell? (p.add i) = some (.int .u8 (xs.getD i 0))
theorem add_at (b o i : Nat) : (⟨b, o, none⟩ : Addr).add i = ⟨b, o + i, none⟩ := by
  unfold Addr.add
  by_cases h : i = 0 <;> simp [h]
theorem Byts.at0 {w : World} {b o : Nat} {xs : List Int} (h : Byts w ⟨b, o, none⟩ xs) (i : Nat) (hi : i < xs.length) : w.cell? ⟨b, o + i, none⟩ = some (.int .u8 (xs.getD i 0)) := by
  rw [← add_at]; exact h i hi
theorem Byts.mk0 {w : World} {b : Nat} {xs : List Int} (h : ∀ i, i < xs.length → w.cell? ⟨b, i, none⟩ = some (.int .u8 (xs.getD i 0))) : Byts w ⟨b, 0, none⟩ xs := fun i hi => by
  rw [add_at, Nat.zero_add]; exact h i hi
theorem getD_map {xs : List Int} {i : Nat} (h : i < xs.length) : (xs.map (Value.int .u8))[i]? = some (.int .u8 (xs.getD i 0)) := by
  rw [List.getElem?_map, List.getElem?_eq_getElem h, List.getD_eq_getElem?_getD, List.getElem?_eq_getElem h]; rfl
/-- The bytes of a block whose beginning is known. -/
theorem Byts.of_front {w : World} {b : Nat} {t : TypeId} {xs : List Int} {Z : Array Value} {fr : Nat × Nat} (h : w.heap[b]? = some (.cells ((xs.map (Value.int .u8)).toArray ++ Z) t fr)) : Byts w ⟨b, 0, none⟩ xs := Byts.mk0 fun i hi => by
  rw [cell_of_row w b i _ t fr h, Array.getElem?_append_left (by simpa using hi), List.getElem?_toArray]
  exact getD_map hi
theorem Byts.of_blk {w : World} {b : Nat} {t : TypeId} {xs : List Int} (h : Blk w b t (xs.map (Value.int .u8)).toArray) : Byts w ⟨b, 0, none⟩ xs :=
  Byts.of_front (Z := #[]) (t := t) (fr := (0, 0)) (by rw [Array.append_empty]; exact h)
theorem add_block (p : Addr) (n : Nat) : (p.add n).block = p.block := by unfold Addr.add; split <;> rfl
theorem Byts.below {w w' : World} {n : Nat} {p : Addr} {xs : List Int} (h : Byts w p xs) (hb : Below n w w') (hn : p.block < n) : Byts w' p xs := fun i hi =>
  (hb.cell (by rw [add_block]; exact hn)).trans (h i hi)
theorem Byts.news {w : World} {p : Addr} {xs : List Int} (h : Byts w p xs) : ∀ j u, (xs.map (Value.int .u8))[j]? = some u → w.cell? (p.add j) = some u := fun j u hu => by
  have hj : j < xs.length := by
    rcases Nat.lt_or_ge j xs.length with h1 | h1
    · exact h1
    · rw [List.getElem?_eq_none (by simpa using h1)] at hu; cases hu
  rw [getD_map hj] at hu
  exact (h j hj).trans hu
theorem Byts.lt {w : World} {p : Addr} {xs : List Int} (h : Byts w p xs) (hl : 0 < xs.length) : p.block < w.heap.size := by
  have h0 := h 0 hl
  rcases Nat.lt_or_ge p.block w.heap.size with h1 | h1
  · exact h1
  · simp [World.cell?, add_block, Array.getElem?_eq_none h1] at h0

set_option maxHeartbeats 400000 in
theorem rput_bad (op a b c m : Int) (w : World) (hb : Cd.bad op a b c m ≠ -1) :
    Calls Tryd.prog 48 #[.agg #[.int .i64 op, .int .i64 a, .int .i64 b, .int .i64 c, .int .u64 m]] w fun e w' =>
      e = .returned (.tuple #[.slice none 0 0, .int .i64 (Cd.er (Cd.bad op a b c m))]) ∧ Below w.heap.size w w' := by
  have HW : ∀ W : World, Calls Tryd.prog 82 #[.agg #[.int .i64 op, .int .i64 a, .int .i64 b, .int .i64 c, .int .u64 m]] W fun e w' => e = .returned (.int .i64 (Cd.bad op a b c m)) ∧ Below W.heap.size W w' := fun W => by
    have := wrong_any op a b c m W
    rw [Cd.rbad_bad] at this
    exact this
  have HH := Lib.hid HW
  clear HW
  have hc := Cd.bad_cases op a b c m
  revert hb hc
  have HQ : Hid (∀ W : World, Calls Tryd.prog 82 #[.agg #[.int .i64 op, .int .i64 a, .int .i64 b, .int .i64 c, .int .u64 m]] W fun e w' => e = .returned (.int .i64 (Cd.bad op a b c m)) ∧ Below W.heap.size W w') := HH
  clear HH
  generalize Cd.bad op a b c m = k at *
  intro hb hc
  have h0 : 0 ≤ k := by omega
  by_cases hk : k = 0
  · subst hk
    go_enter Tryd.func48, Tryd.ntmps48
    go_wp2_with fail
    refine (HQ.out _).mono ?_
    rintro e v ⟨rfl, hbv⟩
    have HB := Lib.hid hbv
    clear hbv
    go_wp2
    go_ret2
    exact ⟨rfl, ((Below.refl _ _).alloc (Nat.le_refl _) _).trans (HB.out.mono (by simp))⟩
  · have hk1 : (k == 0) = false := by simpa using hk
    have hk2 : 0 < k := by omega
    have he : Cd.er k = 5 := by rw [Cd.er, if_neg hk, if_neg (by omega)]
    rw [he]
    clear hc hb hk he
    go_enter Tryd.func48, Tryd.ntmps48
    go_wp2_with fail
    refine (HQ.out _).mono ?_
    rintro e v ⟨rfl, hbv⟩
    have HB := Lib.hid hbv
    clear hbv
    go_wp2
    go_ret2
    exact ⟨rfl, ((Below.refl _ _).alloc (Nat.le_refl _) _).trans (HB.out.mono (by simp))⟩

theorem heap_new_at (W : World) (o : Obj) (g : Nat) (h : W.heap.size = g) : (W.alloc o).drew.heap[g]? = some o := by
  subst h
  exact heap_alloc_new W o

theorem u8_info : (Tryd.prog.info? 5).map (fun i => (i.zero, i.size, i.bytes)) = some (some (.int .u8 0), 1, 1) := by kernel_rfl

set_option maxHeartbeats 1000000 in
theorem rput_ok (op a b c m : Int) (w : World) (hb : Cd.bad op a b c m = -1) (m0 : 0 ≤ m) (m1 : m < 18446744073709551616) :
    Calls Tryd.prog 48 #[.agg #[.int .i64 op, .int .i64 a, .int .i64 b, .int .i64 c, .int .u64 m]] w fun e w' =>
      ∃ g cap, e = .returned (.tuple #[.slice (some ⟨g, 0, none⟩) 12 cap, .int .i64 0]) ∧ Byts w' ⟨g, 0, none⟩ (Cd.bts op a b c m) ∧ Below w.heap.size w w' := by
  obtain ⟨b0, b1, b2, b3, b4, b5, b6, b7⟩ := Cd.bad_none hb
  have HW : ∀ W : World, Calls Tryd.prog 82 #[.agg #[.int .i64 op, .int .i64 a, .int .i64 b, .int .i64 c, .int .u64 m]] W fun e w' => e = .returned (.int .i64 (-1)) ∧ Below W.heap.size W w' := fun W => by
    have := wrong_any op a b c m W
    rw [Cd.rbad_bad, hb] at this
    exact this
  have HH := Lib.hid HW
  have HM := Lib.hid (And.intro m0 m1)
  clear HW hb
  have hmk : ∀ w : World, (Instr.makeSlice 22 (.int .i64 8) (.int .i64 8)).run Tryd.prog w = .ok (.slice (some ⟨w.heap.size, 0, none⟩) 8 8) (w.alloc (.cells #[.int .u8 0, .int .u8 0, .int .u8 0, .int .u8 0, .int .u8 0, .int .u8 0, .int .u8 0, .int .u8 0] 5)) := fun _ => by kernel_rfl
  go_enter Tryd.func48, Tryd.ntmps48
  go_wp2_with fail
  refine (HH.out _).mono ?_
  rintro e v ⟨rfl, hbv⟩
  have hz : w.heap.size < v.heap.size := by have := hbv.size; simp at this; omega
  have c0 : v.cell? ⟨w.heap.size, 0, none⟩ = some (.int .i64 op) := cells_below hbv (by simp) (by simp)
  have c1 : v.cell? ⟨w.heap.size, 1, none⟩ = some (.int .i64 a) := cells_below hbv (by simp) (by simp)
  have c2 : v.cell? ⟨w.heap.size, 2, none⟩ = some (.int .i64 b) := cells_below hbv (by simp) (by simp)
  have c3 : v.cell? ⟨w.heap.size, 3, none⟩ = some (.int .i64 c) := cells_below hbv (by simp) (by simp)
  have c4 : v.cell? ⟨w.heap.size, 4, none⟩ = some (.int .u64 m) := cells_below hbv (by simp) (by simp)
  have HB := Lib.hid hbv
  clear hbv
  go_wp2
  refine wp_loop_rounds 9 ?_
  rw [rounds_succ]; go_wp2
  rw [rounds_succ]; go_wp2
  rw [rounds_succ]; go_wp2
  rw [rounds_succ]; go_wp2
  rw [rounds_succ]; go_wp2
  rw [rounds_succ]; go_wp2
  rw [rounds_succ]; go_wp2
  rw [rounds_succ]; go_wp2
  rw [rounds_succ]; go_wp2_with fail
  go_ret2
  refine ⟨_, _, rfl, Byts.of_front (t := 5) (fr := (0, 0)) (Z := Builtin.zeroCells #[Value.int IntKind.u8 0] ((Question.appendCap 12 4 5).cut (v.tape v.drawn (Question.appendCap 12 4 5)) - 12)) ?_, ?_⟩
  · have e : Cd.bts op a b c m = [op, a, b, c, m / 256 / 256 / 256 / 256 / 256 / 256 / 256 % 256, m / 256 / 256 / 256 / 256 / 256 / 256 % 256, m / 256 / 256 / 256 / 256 / 256 % 256, m / 256 / 256 / 256 / 256 % 256, m / 256 / 256 / 256 % 256, m / 256 / 256 % 256, m / 256 % 256, m % 256] := by
      unfold Cd.bts
      simp only [List.cons.injEq, and_true, true_and]
      omega
    rw [e]
    refine (heap_new_at _ _ _ (by simp)).trans ?_
    rw [← Array.append_assoc]
    rfl
  · exact ((((((Below.refl _ _).alloc (Nat.le_refl _) _).trans (HB.out.mono (by simp))).alloc (by omega) _).alloc (by simp; omega) _).alloc (by simp; omega) _).drew
end Go.Proofs.YthkhadbeomkihaaDoor
