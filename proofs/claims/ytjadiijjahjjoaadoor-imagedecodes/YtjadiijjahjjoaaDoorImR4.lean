/-
  The contract of instruction.
-/
import Derived.Test.YtjadiijjahjjoaaDoorImR3
namespace Go.Proofs.YtjadiijjahjjoaaDoor
open Go.RowKit

theorem keep_alloc {w W : World} {g : Nat} {x y : Value} {o : Obj} (hg : g < w.heap.size) (h : W.cell? ⟨g, 0, none⟩ = some x ∧ W.cell? ⟨g, 1, none⟩ = some y ∧ Below w.heap.size w W) :
    (W.alloc o).cell? ⟨g, 0, none⟩ = some x ∧ (W.alloc o).cell? ⟨g, 1, none⟩ = some y ∧ Below w.heap.size w (W.alloc o) := by
  have := h.2.2.size
  exact ⟨(World.cell?_alloc_lt W o ⟨g, 0, none⟩ (by simp; omega)).trans h.1, (World.cell?_alloc_lt W o ⟨g, 1, none⟩ (by simp; omega)).trans h.2.1, h.2.2.alloc h.2.2.size o⟩
theorem keep_call {w W v : World} {g : Nat} {x y : Value} (hg : g < w.heap.size) (hb : Below W.heap.size W v) (h : W.cell? ⟨g, 0, none⟩ = some x ∧ W.cell? ⟨g, 1, none⟩ = some y ∧ Below w.heap.size w W) :
    v.cell? ⟨g, 0, none⟩ = some x ∧ v.cell? ⟨g, 1, none⟩ = some y ∧ Below w.heap.size w v := by
  have := h.2.2.size
  exact ⟨cells_below hb h.1 (by omega), cells_below hb h.2.1 (by omega), h.2.2.trans (hb.mono h.2.2.size)⟩

theorem keep_set {w W : World} {g : Nat} {x y u : Value} {p : Addr} (hg : g < w.heap.size) (hp : w.heap.size ≤ p.block) (h : W.cell? ⟨g, 0, none⟩ = some x ∧ W.cell? ⟨g, 1, none⟩ = some y ∧ Below w.heap.size w W) :
    (W.setCell p u).cell? ⟨g, 0, none⟩ = some x ∧ (W.setCell p u).cell? ⟨g, 1, none⟩ = some y ∧ Below w.heap.size w (W.setCell p u) :=
  ⟨(World.cell?_of_block (w := W) (Below.heap_setCell W p u g (by omega))).trans h.1, (World.cell?_of_block (w := W) (Below.heap_setCell W p u g (by omega))).trans h.2.1, h.2.2.setCell hp u⟩
theorem blk43 {w v : World} (h : v.heap[w.heap.size + 1]? = some (.cells #[.int .i64 0, .int .i64 0, .int .i64 0, .int .i64 0, .int .u64 0] 43)) : v.cell? ⟨w.heap.size + 1, 0, none⟩ = some (.int .i64 0) ∧ v.cell? ⟨w.heap.size + 1, 1, none⟩ = some (.int .i64 0) ∧ v.cell? ⟨w.heap.size + 1, 2, none⟩ = some (.int .i64 0) ∧ v.cell? ⟨w.heap.size + 1, 3, none⟩ = some (.int .i64 0) ∧ v.cell? ⟨w.heap.size + 1, 4, none⟩ = some (.int .u64 0) ∧ v.frozen? ⟨w.heap.size + 1, 0, none⟩ = false ∧ v.frozen? ⟨w.heap.size + 1, 1, none⟩ = false ∧ v.frozen? ⟨w.heap.size + 1, 2, none⟩ = false ∧ v.frozen? ⟨w.heap.size + 1, 3, none⟩ = false ∧ v.frozen? ⟨w.heap.size + 1, 4, none⟩ = false := by
  refine ⟨?_, ?_, ?_, ?_, ?_, Joins.unfrozen_of_block h 0, Joins.unfrozen_of_block h 1, Joins.unfrozen_of_block h 2, Joins.unfrozen_of_block h 3, Joins.unfrozen_of_block h 4⟩
  all_goals
    rw [cell_of_row _ _ _ _ _ _ h]
    rfl
theorem new43 {w v : World} (h : Below (((w.alloc (.cells #[.int .i64 0, .int .i64 0, .int .i64 0, .int .i64 0, .int .u64 0] 43)).alloc (.cells #[.int .i64 0, .int .i64 0, .int .i64 0, .int .i64 0, .int .u64 0] 43)).drew).heap.size (((w.alloc (.cells #[.int .i64 0, .int .i64 0, .int .i64 0, .int .i64 0, .int .u64 0] 43)).alloc (.cells #[.int .i64 0, .int .i64 0, .int .i64 0, .int .i64 0, .int .u64 0] 43)).drew) v) : v.cell? ⟨w.heap.size + 1, 0, none⟩ = some (.int .i64 0) ∧ v.cell? ⟨w.heap.size + 1, 1, none⟩ = some (.int .i64 0) ∧ v.cell? ⟨w.heap.size + 1, 2, none⟩ = some (.int .i64 0) ∧ v.cell? ⟨w.heap.size + 1, 3, none⟩ = some (.int .i64 0) ∧ v.cell? ⟨w.heap.size + 1, 4, none⟩ = some (.int .u64 0) ∧ v.frozen? ⟨w.heap.size + 1, 0, none⟩ = false ∧ v.frozen? ⟨w.heap.size + 1, 1, none⟩ = false ∧ v.frozen? ⟨w.heap.size + 1, 2, none⟩ = false ∧ v.frozen? ⟨w.heap.size + 1, 3, none⟩ = false ∧ v.frozen? ⟨w.heap.size + 1, 4, none⟩ = false := by
  refine blk43 ((h.block (w.heap.size + 1) (by simp)).trans ?_)
  have := heap_alloc_new (w.alloc (.cells #[.int .i64 0, .int .i64 0, .int .i64 0, .int .i64 0, .int .u64 0] 43)) (.cells #[.int .i64 0, .int .i64 0, .int .i64 0, .int .i64 0, .int .u64 0] 43)
  rwa [World.size_alloc] at this
theorem new43' {w v : World} (h : Below ((w.alloc (.cells #[.int .i64 0, .int .i64 0, .int .i64 0, .int .i64 0, .int .u64 0] 43)).drew.alloc (.cells #[.int .i64 0, .int .i64 0, .int .i64 0, .int .i64 0, .int .u64 0] 43)).heap.size ((w.alloc (.cells #[.int .i64 0, .int .i64 0, .int .i64 0, .int .i64 0, .int .u64 0] 43)).drew.alloc (.cells #[.int .i64 0, .int .i64 0, .int .i64 0, .int .i64 0, .int .u64 0] 43)) v) : v.cell? ⟨w.heap.size + 1, 0, none⟩ = some (.int .i64 0) ∧ v.cell? ⟨w.heap.size + 1, 1, none⟩ = some (.int .i64 0) ∧ v.cell? ⟨w.heap.size + 1, 2, none⟩ = some (.int .i64 0) ∧ v.cell? ⟨w.heap.size + 1, 3, none⟩ = some (.int .i64 0) ∧ v.cell? ⟨w.heap.size + 1, 4, none⟩ = some (.int .u64 0) ∧ v.frozen? ⟨w.heap.size + 1, 0, none⟩ = false ∧ v.frozen? ⟨w.heap.size + 1, 1, none⟩ = false ∧ v.frozen? ⟨w.heap.size + 1, 2, none⟩ = false ∧ v.frozen? ⟨w.heap.size + 1, 3, none⟩ = false ∧ v.frozen? ⟨w.heap.size + 1, 4, none⟩ = false := new43 (w := w) (v := v) h
theorem keep_drew {w W : World} {g : Nat} {x y : Value} (h : W.cell? ⟨g, 0, none⟩ = some x ∧ W.cell? ⟨g, 1, none⟩ = some y ∧ Below w.heap.size w W) :
    W.drew.cell? ⟨g, 0, none⟩ = some x ∧ W.drew.cell? ⟨g, 1, none⟩ = some y ∧ Below w.heap.size w W.drew := ⟨h.1, h.2.1, h.2.2.drew⟩

/-- Behind the region: the instruction in a block of its own, the result's block still empty. -/
structure Fin5 (w : World) (op a b' c m : Int) (P : Nat) (W : World) : Prop where
  bl : Below w.heap.size w W
  p0 : w.heap.size < P
  bP : W.heap[P]? = some (.cells #[.int .i64 op, .int .i64 a, .int .i64 b', .int .i64 c, .int .u64 m] 43)
  b0 : W.heap[w.heap.size]? = some (.cells #[.int .i64 0, .int .i64 0, .int .i64 0, .int .i64 0, .int .u64 0] 43)
theorem fin1 {w v : World} {op a b' c m : Int} (h : Below ((w.alloc (.cells #[.int .i64 0, .int .i64 0, .int .i64 0, .int .i64 0, .int .u64 0] 43)).drew).heap.size ((w.alloc (.cells #[.int .i64 0, .int .i64 0, .int .i64 0, .int .i64 0, .int .u64 0] 43)).drew) v) : Fin5 w op a b' c m v.heap.size (v.alloc (.cells #[.int .i64 op, .int .i64 a, .int .i64 b', .int .i64 c, .int .u64 m] 43)) := by
  have hs := h.size
  simp at hs
  refine ⟨((Below.box _ _).trans ((Below.refl _ _).drew.trans (h.mono (by simp)))).alloc (by omega) _, by omega, heap_alloc_new v _, ?_⟩
  rw [Below.heap_alloc _ _ _ (by omega)]
  exact (h.block w.heap.size (by simp)).trans (heap_alloc_new w _)
theorem set5 {v : World} {G : Nat} {z0 z1 z2 z3 z4 : Value} {t : TypeId} (h : v.heap[G]? = some (.cells #[z0, z1, z2, z3, z4] t)) (x0 x1 x2 x3 x4 : Value) :
    (((((v.setCell ⟨G, 0, none⟩ x0).setCell ⟨G, 1, none⟩ x1).setCell ⟨G, 2, none⟩ x2).setCell ⟨G, 3, none⟩ x3).setCell ⟨G, 4, none⟩ x4).heap[G]? = some (.cells #[x0, x1, x2, x3, x4] t) := by
  have e0 := Joins.block_setCell (i := 0) h x0
  have e1 := Joins.block_setCell (i := 1) e0 x1
  have e2 := Joins.block_setCell (i := 2) e1 x2
  have e3 := Joins.block_setCell (i := 3) e2 x3
  have e4 := Joins.block_setCell (i := 4) e3 x4
  exact e4
theorem fin2 {w v : World} {op a b' c m : Int} (h : Below (((w.alloc (.cells #[.int .i64 0, .int .i64 0, .int .i64 0, .int .i64 0, .int .u64 0] 43)).alloc (.cells #[.int .i64 0, .int .i64 0, .int .i64 0, .int .i64 0, .int .u64 0] 43)).drew).heap.size (((w.alloc (.cells #[.int .i64 0, .int .i64 0, .int .i64 0, .int .i64 0, .int .u64 0] 43)).alloc (.cells #[.int .i64 0, .int .i64 0, .int .i64 0, .int .i64 0, .int .u64 0] 43)).drew) v) : Fin5 w op a b' c m (w.heap.size + 1) (((((v.setCell ⟨w.heap.size + 1, 0, none⟩ (.int .i64 op)).setCell ⟨w.heap.size + 1, 1, none⟩ (.int .i64 a)).setCell ⟨w.heap.size + 1, 2, none⟩ (.int .i64 b')).setCell ⟨w.heap.size + 1, 3, none⟩ (.int .i64 c)).setCell ⟨w.heap.size + 1, 4, none⟩ (.int .u64 m)) := by
  have hb : Below w.heap.size w v := ((Below.box w (.cells #[.int .i64 0, .int .i64 0, .int .i64 0, .int .i64 0, .int .u64 0] 43)).alloc (by simp) (.cells #[.int .i64 0, .int .i64 0, .int .i64 0, .int .i64 0, .int .u64 0] 43)).drew.trans (h.mono (by simp; omega))
  refine ⟨((((hb.setCell (by simp) _).setCell (by simp) _).setCell (by simp) _).setCell (by simp) _).setCell (by simp) _, by omega, ?_, ?_⟩
  · refine set5 (z0 := .int .i64 0) (z1 := .int .i64 0) (z2 := .int .i64 0) (z3 := .int .i64 0) (z4 := .int .u64 0) ((h.block (w.heap.size + 1) (by simp)).trans ?_) _ _ _ _ _
    have := heap_alloc_new (w.alloc (.cells #[.int .i64 0, .int .i64 0, .int .i64 0, .int .i64 0, .int .u64 0] 43)) (.cells #[.int .i64 0, .int .i64 0, .int .i64 0, .int .i64 0, .int .u64 0] 43)
    rwa [World.size_alloc] at this
  · rw [Below.heap_setCell _ _ _ _ (by simp), Below.heap_setCell _ _ _ _ (by simp), Below.heap_setCell _ _ _ _ (by simp), Below.heap_setCell _ _ _ _ (by simp), Below.heap_setCell _ _ _ _ (by simp)]
    refine (h.block w.heap.size (by simp; omega)).trans ?_
    have : ((w.alloc (.cells #[.int .i64 0, .int .i64 0, .int .i64 0, .int .i64 0, .int .u64 0] 43)).alloc (.cells #[.int .i64 0, .int .i64 0, .int .i64 0, .int .i64 0, .int .u64 0] 43)).heap[w.heap.size]? = _ := Below.heap_alloc (w.alloc (.cells #[.int .i64 0, .int .i64 0, .int .i64 0, .int .i64 0, .int .u64 0] 43)) _ w.heap.size (by simp)
    exact this.trans (heap_alloc_new w _)
theorem Rd.setNew {g : Nat} {w W : World} (h : Rd g w W) {p : Addr} (hp : w.heap.size ≤ p.block) (u : Value) : Rd g w (W.setCell p u) :=
  ⟨h.os, h.tape, h.output, by simpa using h.size, fun k hk hn => (Below.heap_setCell _ _ _ _ (by omega)).trans (h.block k hk hn)⟩
theorem RB.other {w : World} {g : Nat} {A : Option Addr} {len cap : Nat} {i : Int} (h : RB w g A len cap i) {p : Addr} (hp : g ≠ p.block) (u : Value) : RB (w.setCell p u) g A len cap i := (Below.heap_setCell _ _ _ _ hp).trans h

set_option maxHeartbeats 1600000 in
theorem instr_core (g b o len cap i : Nat) (op a b' c m e k : Int) (w : World) (hb : RB w g (some ⟨b, o, none⟩) len cap i) (hi : i ≤ len) (hl : len ≤ cap) (hc : cap ≤ 9223372036854775807) (hci : ¬ cap = i) (hi1 : i ≤ 1000000000000) (k0 : 0 ≤ k) (k1 : k ≤ 1000000000000)
    (HG : ∀ W, (W.cell? ⟨g, 0, none⟩ = some (.slice (some ⟨b, o, none⟩) len cap) ∧ W.cell? ⟨g, 1, none⟩ = some (.int .i64 i) ∧ Below w.heap.size w W) → Calls Tryd.prog 59 #[.slice (some ⟨b, o + i, none⟩) (len - i) (cap - i)] W fun e' w' => e' = .returned (.tuple #[.agg #[.int .i64 op, .int .i64 a, .int .i64 b', .int .i64 c, .int .u64 m], .int .i64 e, .int .i64 k]) ∧ Below W.heap.size W w') :
    Calls Tryd.prog 49 #[.pointer (some ⟨g, 0, none⟩)] w fun e' w' => (e = 0 ∧ e' = .returned (.agg #[.int .i64 op, .int .i64 a, .int .i64 b', .int .i64 c, .int .u64 m]) ∧ RB w' g (some ⟨b, o, none⟩) len cap ((i : Int) + 12) ∧ Rd g w w') ∨ (e ≠ 0 ∧ e' = flt e (i + k) ∧ Rd g w w') := by
  have c0 := hb.c0
  have c1 := hb.c1
  have hg := hb.lt
  have H := Lib.hid HG
  have HB := Lib.hid hb
  have hii : (i : Int) ≤ len := by omega
  clear hb HG
  go_enter Tryd.func49, Tryd.ntmps49
  go_wp2_with fail
  go_region_held3 (fun W => W.cell? ⟨g, 0, none⟩ = some (.slice (some ⟨b, o, none⟩) len cap) ∧ W.cell? ⟨g, 1, none⟩ = some (.int .i64 i) ∧ Below w.heap.size w W)
    (first
      | with_reducible exact keep_call hg (by assumption) (by assumption)
      | with_reducible exact keep_alloc hg (by assumption)
      | with_reducible exact keep_alloc hg (keep_call hg hbv (keep_drew (keep_alloc hg ⟨c0, c1, Below.refl _ _⟩)))
      | with_reducible exact keep_set hg (by simp) (keep_set hg (by simp) (keep_set hg (by simp) (keep_set hg (by simp) (keep_set hg (by simp) (by assumption)))))
      | with_reducible exact keep_drew (keep_alloc hg ⟨c0, c1, (Below.refl _ _)⟩)
      | with_reducible exact keep_drew (keep_alloc hg (keep_alloc hg ⟨c0, c1, (Below.refl _ _)⟩)))
    (first | (go_at_call 59; refine (H.out _ (by assumption)).mono ?_; rintro e' v ⟨rfl, hbv⟩
              first
                | (with_reducible have h43 := new43 hbv
                   obtain ⟨y0, y1, y2, y3, y4, f0, f1, f2, f3, f4⟩ := h43)
                | (with_reducible have h43 := new43' hbv
                   obtain ⟨y0, y1, y2, y3, y4, f0, f1, f2, f3, f4⟩ := h43)
                | skip))
  · have HF := fin1 (op := op) (a := a) (b' := b') (c := c) (m := m) hbv
    clear hbv
    revert HF
    generalize (v.alloc (.cells #[.int .i64 op, .int .i64 a, .int .i64 b', .int .i64 c, .int .u64 m] 43)) = W'
    generalize v.heap.size = P
    intro HF
    have x0 : W'.cell? ⟨P, 0, none⟩ = some (.int .i64 op) := by rw [cell_of_row _ _ _ _ _ _ HF.bP]; rfl
    have x1 : W'.cell? ⟨P, 1, none⟩ = some (.int .i64 a) := by rw [cell_of_row _ _ _ _ _ _ HF.bP]; rfl
    have x2 : W'.cell? ⟨P, 2, none⟩ = some (.int .i64 b') := by rw [cell_of_row _ _ _ _ _ _ HF.bP]; rfl
    have x3 : W'.cell? ⟨P, 3, none⟩ = some (.int .i64 c) := by rw [cell_of_row _ _ _ _ _ _ HF.bP]; rfl
    have x4 : W'.cell? ⟨P, 4, none⟩ = some (.int .u64 m) := by rw [cell_of_row _ _ _ _ _ _ HF.bP]; rfl
    have r0 : W'.cell? ⟨w.heap.size, 0, none⟩ = some (.int .i64 0) := by rw [cell_of_row _ _ _ _ _ _ HF.b0]; rfl
    have r1 : W'.cell? ⟨w.heap.size, 1, none⟩ = some (.int .i64 0) := by rw [cell_of_row _ _ _ _ _ _ HF.b0]; rfl
    have r2 : W'.cell? ⟨w.heap.size, 2, none⟩ = some (.int .i64 0) := by rw [cell_of_row _ _ _ _ _ _ HF.b0]; rfl
    have r3 : W'.cell? ⟨w.heap.size, 3, none⟩ = some (.int .i64 0) := by rw [cell_of_row _ _ _ _ _ _ HF.b0]; rfl
    have r4 : W'.cell? ⟨w.heap.size, 4, none⟩ = some (.int .u64 0) := by rw [cell_of_row _ _ _ _ _ _ HF.b0]; rfl
    have q0 := Joins.unfrozen_of_block HF.b0 0
    have q1 := Joins.unfrozen_of_block HF.b0 1
    have q2 := Joins.unfrozen_of_block HF.b0 2
    have q3 := Joins.unfrozen_of_block HF.b0 3
    have q4 := Joins.unfrozen_of_block HF.b0 4
    have hRB : RB W' g (some ⟨b, o, none⟩) len cap i := (HF.bl.block g hg).trans HB.out
    have g0 := hRB.c0
    have g1 := hRB.c1
    have gf := hRB.fr
    have n1 : ¬ w.heap.size = g := by omega
    have n2 : ¬ g = w.heap.size := by omega
    have n3 : ¬ P = g := by have := HF.p0; omega
    have n4 : ¬ g = P := by have := HF.p0; omega
    have n5 : ¬ P = w.heap.size := by have := HF.p0; omega
    have n6 : ¬ w.heap.size = P := by have := HF.p0; omega
    have HR := Lib.hid hRB
    have HFF := Lib.hid HF
    clear HF hRB c0 c1
    by_cases he : e = 0
    · subst he
      go_wp2
      refine bodyPost_ret (v := .agg #[.int .i64 op, .int .i64 a, .int .i64 b', .int .i64 c, .int .u64 m]) (by simp [results, Tryd.results49, go_sem, *]) rfl ⟨rfl, ?_, ?_⟩
      · exact ((((((HR.out.set _).other n2 _).other n2 _).other n2 _).other n2 _).other n2 _)
      · exact ((((((Rd.of_below HFF.out.bl).trans (Rd.set _ _ _)).setNew (Nat.le_refl _) _).setNew (Nat.le_refl _) _).setNew (Nat.le_refl _) _).setNew (Nat.le_refl _) _).setNew (Nat.le_refl _) _
    · have hne : (e != 0) = true := by simpa using he
      go_wp2
      exact ⟨rfl, .inr ⟨he, rfl, Rd.of_below HFF.out.bl⟩⟩
  · have HF := fin2 (op := op) (a := a) (b' := b') (c := c) (m := m) hbv
    clear y0 y1 y2 y3 y4 f0 f1 f2 f3 f4
    clear hbv
    revert HF
    generalize (((((v.setCell ⟨w.heap.size + 1, 0, none⟩ (.int .i64 op)).setCell ⟨w.heap.size + 1, 1, none⟩ (.int .i64 a)).setCell ⟨w.heap.size + 1, 2, none⟩ (.int .i64 b')).setCell ⟨w.heap.size + 1, 3, none⟩ (.int .i64 c)).setCell ⟨w.heap.size + 1, 4, none⟩ (.int .u64 m)) = W'
    generalize w.heap.size + 1 = P
    intro HF
    have x0 : W'.cell? ⟨P, 0, none⟩ = some (.int .i64 op) := by rw [cell_of_row _ _ _ _ _ _ HF.bP]; rfl
    have x1 : W'.cell? ⟨P, 1, none⟩ = some (.int .i64 a) := by rw [cell_of_row _ _ _ _ _ _ HF.bP]; rfl
    have x2 : W'.cell? ⟨P, 2, none⟩ = some (.int .i64 b') := by rw [cell_of_row _ _ _ _ _ _ HF.bP]; rfl
    have x3 : W'.cell? ⟨P, 3, none⟩ = some (.int .i64 c) := by rw [cell_of_row _ _ _ _ _ _ HF.bP]; rfl
    have x4 : W'.cell? ⟨P, 4, none⟩ = some (.int .u64 m) := by rw [cell_of_row _ _ _ _ _ _ HF.bP]; rfl
    have r0 : W'.cell? ⟨w.heap.size, 0, none⟩ = some (.int .i64 0) := by rw [cell_of_row _ _ _ _ _ _ HF.b0]; rfl
    have r1 : W'.cell? ⟨w.heap.size, 1, none⟩ = some (.int .i64 0) := by rw [cell_of_row _ _ _ _ _ _ HF.b0]; rfl
    have r2 : W'.cell? ⟨w.heap.size, 2, none⟩ = some (.int .i64 0) := by rw [cell_of_row _ _ _ _ _ _ HF.b0]; rfl
    have r3 : W'.cell? ⟨w.heap.size, 3, none⟩ = some (.int .i64 0) := by rw [cell_of_row _ _ _ _ _ _ HF.b0]; rfl
    have r4 : W'.cell? ⟨w.heap.size, 4, none⟩ = some (.int .u64 0) := by rw [cell_of_row _ _ _ _ _ _ HF.b0]; rfl
    have q0 := Joins.unfrozen_of_block HF.b0 0
    have q1 := Joins.unfrozen_of_block HF.b0 1
    have q2 := Joins.unfrozen_of_block HF.b0 2
    have q3 := Joins.unfrozen_of_block HF.b0 3
    have q4 := Joins.unfrozen_of_block HF.b0 4
    have hRB : RB W' g (some ⟨b, o, none⟩) len cap i := (HF.bl.block g hg).trans HB.out
    have g0 := hRB.c0
    have g1 := hRB.c1
    have gf := hRB.fr
    have n1 : ¬ w.heap.size = g := by omega
    have n2 : ¬ g = w.heap.size := by omega
    have n3 : ¬ P = g := by have := HF.p0; omega
    have n4 : ¬ g = P := by have := HF.p0; omega
    have n5 : ¬ P = w.heap.size := by have := HF.p0; omega
    have n6 : ¬ w.heap.size = P := by have := HF.p0; omega
    have HR := Lib.hid hRB
    have HFF := Lib.hid HF
    clear HF hRB c0 c1
    by_cases he : e = 0
    · subst he
      go_wp2
      refine bodyPost_ret (v := .agg #[.int .i64 op, .int .i64 a, .int .i64 b', .int .i64 c, .int .u64 m]) (by simp [results, Tryd.results49, go_sem, *]) rfl ⟨rfl, ?_, ?_⟩
      · exact ((((((HR.out.set _).other n2 _).other n2 _).other n2 _).other n2 _).other n2 _)
      · exact ((((((Rd.of_below HFF.out.bl).trans (Rd.set _ _ _)).setNew (Nat.le_refl _) _).setNew (Nat.le_refl _) _).setNew (Nat.le_refl _) _).setNew (Nat.le_refl _) _).setNew (Nat.le_refl _) _
    · have hne : (e != 0) = true := by simpa using he
      go_wp2
      exact ⟨rfl, .inr ⟨he, rfl, Rd.of_below HFF.out.bl⟩⟩
set_option maxHeartbeats 1600000 in
theorem instr_end (g b o i : Nat) (op a b' c m e k : Int) (w : World) (hb : RB w g (some ⟨b, o, none⟩) i i i) (hi1 : i ≤ 1000000000000) (k0 : 0 ≤ k) (k1 : k ≤ 1000000000000)
    (HG : ∀ W, (W.cell? ⟨g, 0, none⟩ = some (.slice (some ⟨b, o, none⟩) i i) ∧ W.cell? ⟨g, 1, none⟩ = some (.int .i64 i) ∧ Below w.heap.size w W) → Calls Tryd.prog 59 #[.slice (some ⟨b, o, none⟩) 0 0] W fun e' w' => e' = .returned (.tuple #[.agg #[.int .i64 op, .int .i64 a, .int .i64 b', .int .i64 c, .int .u64 m], .int .i64 e, .int .i64 k]) ∧ Below W.heap.size W w') :
    Calls Tryd.prog 49 #[.pointer (some ⟨g, 0, none⟩)] w fun e' w' => (e = 0 ∧ e' = .returned (.agg #[.int .i64 op, .int .i64 a, .int .i64 b', .int .i64 c, .int .u64 m]) ∧ RB w' g (some ⟨b, o, none⟩) i i ((i : Int) + 12) ∧ Rd g w w') ∨ (e ≠ 0 ∧ e' = flt e (i + k) ∧ Rd g w w') := by
  have c0 := hb.c0
  have c1 := hb.c1
  have hg := hb.lt
  have H := Lib.hid HG
  have HB := Lib.hid hb
  clear hb HG
  go_enter Tryd.func49, Tryd.ntmps49
  go_wp2_with fail
  go_region_held3 (fun W => W.cell? ⟨g, 0, none⟩ = some (.slice (some ⟨b, o, none⟩) i i) ∧ W.cell? ⟨g, 1, none⟩ = some (.int .i64 i) ∧ Below w.heap.size w W)
    (first
      | with_reducible exact keep_call hg (by assumption) (by assumption)
      | with_reducible exact keep_alloc hg (by assumption)
      | with_reducible exact keep_alloc hg (keep_call hg hbv (keep_drew (keep_alloc hg ⟨c0, c1, Below.refl _ _⟩)))
      | with_reducible exact keep_set hg (by simp) (keep_set hg (by simp) (keep_set hg (by simp) (keep_set hg (by simp) (keep_set hg (by simp) (by assumption)))))
      | with_reducible exact keep_drew (keep_alloc hg ⟨c0, c1, (Below.refl _ _)⟩)
      | with_reducible exact keep_drew (keep_alloc hg (keep_alloc hg ⟨c0, c1, (Below.refl _ _)⟩)))
    (first | (go_at_call 59; refine (H.out _ (by assumption)).mono ?_; rintro e' v ⟨rfl, hbv⟩
              first
                | (with_reducible have h43 := new43 hbv
                   obtain ⟨y0, y1, y2, y3, y4, f0, f1, f2, f3, f4⟩ := h43)
                | (with_reducible have h43 := new43' hbv
                   obtain ⟨y0, y1, y2, y3, y4, f0, f1, f2, f3, f4⟩ := h43)
                | skip))
  · have HF := fin1 (op := op) (a := a) (b' := b') (c := c) (m := m) hbv
    clear hbv
    revert HF
    generalize (v.alloc (.cells #[.int .i64 op, .int .i64 a, .int .i64 b', .int .i64 c, .int .u64 m] 43)) = W'
    generalize v.heap.size = P
    intro HF
    have x0 : W'.cell? ⟨P, 0, none⟩ = some (.int .i64 op) := by rw [cell_of_row _ _ _ _ _ _ HF.bP]; rfl
    have x1 : W'.cell? ⟨P, 1, none⟩ = some (.int .i64 a) := by rw [cell_of_row _ _ _ _ _ _ HF.bP]; rfl
    have x2 : W'.cell? ⟨P, 2, none⟩ = some (.int .i64 b') := by rw [cell_of_row _ _ _ _ _ _ HF.bP]; rfl
    have x3 : W'.cell? ⟨P, 3, none⟩ = some (.int .i64 c) := by rw [cell_of_row _ _ _ _ _ _ HF.bP]; rfl
    have x4 : W'.cell? ⟨P, 4, none⟩ = some (.int .u64 m) := by rw [cell_of_row _ _ _ _ _ _ HF.bP]; rfl
    have r0 : W'.cell? ⟨w.heap.size, 0, none⟩ = some (.int .i64 0) := by rw [cell_of_row _ _ _ _ _ _ HF.b0]; rfl
    have r1 : W'.cell? ⟨w.heap.size, 1, none⟩ = some (.int .i64 0) := by rw [cell_of_row _ _ _ _ _ _ HF.b0]; rfl
    have r2 : W'.cell? ⟨w.heap.size, 2, none⟩ = some (.int .i64 0) := by rw [cell_of_row _ _ _ _ _ _ HF.b0]; rfl
    have r3 : W'.cell? ⟨w.heap.size, 3, none⟩ = some (.int .i64 0) := by rw [cell_of_row _ _ _ _ _ _ HF.b0]; rfl
    have r4 : W'.cell? ⟨w.heap.size, 4, none⟩ = some (.int .u64 0) := by rw [cell_of_row _ _ _ _ _ _ HF.b0]; rfl
    have q0 := Joins.unfrozen_of_block HF.b0 0
    have q1 := Joins.unfrozen_of_block HF.b0 1
    have q2 := Joins.unfrozen_of_block HF.b0 2
    have q3 := Joins.unfrozen_of_block HF.b0 3
    have q4 := Joins.unfrozen_of_block HF.b0 4
    have hRB : RB W' g (some ⟨b, o, none⟩) i i i := (HF.bl.block g hg).trans HB.out
    have g0 := hRB.c0
    have g1 := hRB.c1
    have gf := hRB.fr
    have n1 : ¬ w.heap.size = g := by omega
    have n2 : ¬ g = w.heap.size := by omega
    have n3 : ¬ P = g := by have := HF.p0; omega
    have n4 : ¬ g = P := by have := HF.p0; omega
    have n5 : ¬ P = w.heap.size := by have := HF.p0; omega
    have n6 : ¬ w.heap.size = P := by have := HF.p0; omega
    have HR := Lib.hid hRB
    have HFF := Lib.hid HF
    clear HF hRB c0 c1
    by_cases he : e = 0
    · subst he
      go_wp2
      refine bodyPost_ret (v := .agg #[.int .i64 op, .int .i64 a, .int .i64 b', .int .i64 c, .int .u64 m]) (by simp [results, Tryd.results49, go_sem, *]) rfl ⟨rfl, ?_, ?_⟩
      · exact ((((((HR.out.set _).other n2 _).other n2 _).other n2 _).other n2 _).other n2 _)
      · exact ((((((Rd.of_below HFF.out.bl).trans (Rd.set _ _ _)).setNew (Nat.le_refl _) _).setNew (Nat.le_refl _) _).setNew (Nat.le_refl _) _).setNew (Nat.le_refl _) _).setNew (Nat.le_refl _) _
    · have hne : (e != 0) = true := by simpa using he
      go_wp2
      exact ⟨rfl, .inr ⟨he, rfl, Rd.of_below HFF.out.bl⟩⟩
  · have HF := fin2 (op := op) (a := a) (b' := b') (c := c) (m := m) hbv
    clear y0 y1 y2 y3 y4 f0 f1 f2 f3 f4
    clear hbv
    revert HF
    generalize (((((v.setCell ⟨w.heap.size + 1, 0, none⟩ (.int .i64 op)).setCell ⟨w.heap.size + 1, 1, none⟩ (.int .i64 a)).setCell ⟨w.heap.size + 1, 2, none⟩ (.int .i64 b')).setCell ⟨w.heap.size + 1, 3, none⟩ (.int .i64 c)).setCell ⟨w.heap.size + 1, 4, none⟩ (.int .u64 m)) = W'
    generalize w.heap.size + 1 = P
    intro HF
    have x0 : W'.cell? ⟨P, 0, none⟩ = some (.int .i64 op) := by rw [cell_of_row _ _ _ _ _ _ HF.bP]; rfl
    have x1 : W'.cell? ⟨P, 1, none⟩ = some (.int .i64 a) := by rw [cell_of_row _ _ _ _ _ _ HF.bP]; rfl
    have x2 : W'.cell? ⟨P, 2, none⟩ = some (.int .i64 b') := by rw [cell_of_row _ _ _ _ _ _ HF.bP]; rfl
    have x3 : W'.cell? ⟨P, 3, none⟩ = some (.int .i64 c) := by rw [cell_of_row _ _ _ _ _ _ HF.bP]; rfl
    have x4 : W'.cell? ⟨P, 4, none⟩ = some (.int .u64 m) := by rw [cell_of_row _ _ _ _ _ _ HF.bP]; rfl
    have r0 : W'.cell? ⟨w.heap.size, 0, none⟩ = some (.int .i64 0) := by rw [cell_of_row _ _ _ _ _ _ HF.b0]; rfl
    have r1 : W'.cell? ⟨w.heap.size, 1, none⟩ = some (.int .i64 0) := by rw [cell_of_row _ _ _ _ _ _ HF.b0]; rfl
    have r2 : W'.cell? ⟨w.heap.size, 2, none⟩ = some (.int .i64 0) := by rw [cell_of_row _ _ _ _ _ _ HF.b0]; rfl
    have r3 : W'.cell? ⟨w.heap.size, 3, none⟩ = some (.int .i64 0) := by rw [cell_of_row _ _ _ _ _ _ HF.b0]; rfl
    have r4 : W'.cell? ⟨w.heap.size, 4, none⟩ = some (.int .u64 0) := by rw [cell_of_row _ _ _ _ _ _ HF.b0]; rfl
    have q0 := Joins.unfrozen_of_block HF.b0 0
    have q1 := Joins.unfrozen_of_block HF.b0 1
    have q2 := Joins.unfrozen_of_block HF.b0 2
    have q3 := Joins.unfrozen_of_block HF.b0 3
    have q4 := Joins.unfrozen_of_block HF.b0 4
    have hRB : RB W' g (some ⟨b, o, none⟩) i i i := (HF.bl.block g hg).trans HB.out
    have g0 := hRB.c0
    have g1 := hRB.c1
    have gf := hRB.fr
    have n1 : ¬ w.heap.size = g := by omega
    have n2 : ¬ g = w.heap.size := by omega
    have n3 : ¬ P = g := by have := HF.p0; omega
    have n4 : ¬ g = P := by have := HF.p0; omega
    have n5 : ¬ P = w.heap.size := by have := HF.p0; omega
    have n6 : ¬ w.heap.size = P := by have := HF.p0; omega
    have HR := Lib.hid hRB
    have HFF := Lib.hid HF
    clear HF hRB c0 c1
    by_cases he : e = 0
    · subst he
      go_wp2
      refine bodyPost_ret (v := .agg #[.int .i64 op, .int .i64 a, .int .i64 b', .int .i64 c, .int .u64 m]) (by simp [results, Tryd.results49, go_sem, *]) rfl ⟨rfl, ?_, ?_⟩
      · exact ((((((HR.out.set _).other n2 _).other n2 _).other n2 _).other n2 _).other n2 _)
      · exact ((((((Rd.of_below HFF.out.bl).trans (Rd.set _ _ _)).setNew (Nat.le_refl _) _).setNew (Nat.le_refl _) _).setNew (Nat.le_refl _) _).setNew (Nat.le_refl _) _).setNew (Nat.le_refl _) _
    · have hne : (e != 0) = true := by simpa using he
      go_wp2
      exact ⟨rfl, .inr ⟨he, rfl, Rd.of_below HFF.out.bl⟩⟩

/-- What instruction does. -/
def InsP (g : Nat) (A : Option Addr) (len cap i : Nat) (I : Im.I5) (w : World) (e : Ending) (w' : World) : Prop :=
  Rd g w w' ∧ ((len < i + 12 ∧ e = flt 1 len) ∨ (i + 12 ≤ len ∧ Im.bad5 I ≠ -1 ∧ e = flt (Cd.er (Im.bad5 I)) (i + Cd.pl (Im.bad5 I))) ∨
    (i + 12 ≤ len ∧ Im.bad5 I = -1 ∧ e = .returned (.agg #[.int .i64 I.op, .int .i64 I.a, .int .i64 I.b, .int .i64 I.c, .int .u64 I.m]) ∧ RB w' g A len cap ((i + 12 : Nat) : Int)))
theorem instr_any (g : Nat) (A : Option Addr) (len cap i : Nat) (xs : List Int) (w : World) (ho : Ops w) (hb : RB w g A len cap i) (hx : ByR g w A len cap xs) (hi : i ≤ len) (hl : 0 < len) (hi1 : len ≤ 1000000000000) :
    Calls Tryd.prog 49 #[.pointer (some ⟨g, 0, none⟩)] w (InsP g A len cap i (Im.ins (xs.drop i)) w) := by
  obtain ⟨b, o, rfl, hlt, hby⟩ := hx.sl.mem hl
  have hle := hx.sl.hle
  have hc := hx.sl.hcap
  have hln := hx.sl.hlen
  have hp := ho.pos
  unfold maxLen at hc
  rcases Nat.lt_or_ge len (i + 12) with h1 | h1
  · by_cases hci : cap = i
    · obtain rfl : len = i := by omega
      subst hci
      refine (instr_end g b o cap 0 0 0 0 0 1 0 w hb (by omega) (by omega) (by omega) fun W _ => get_short _ _ _ _ (by omega)).mono ?_
      rintro e w' (⟨h, _⟩ | ⟨_, rfl, hr⟩)
      · cases h
      · exact ⟨hr, .inl ⟨by omega, by rw [Int.add_zero]⟩⟩
    · refine (instr_core g b o len cap i 0 0 0 0 0 1 ((len - i : Nat) : Int) w hb hi hle (by omega) hci (by omega) (by omega) (by omega) fun W _ => get_short _ _ _ _ (by omega)).mono ?_
      rintro e w' (⟨h, _⟩ | ⟨_, rfl, hr⟩)
      · cases h
      · exact ⟨hr, .inl ⟨h1, by rw [show (i : Int) + ((len - i : Nat) : Int) = len by omega]⟩⟩
  · have hG : ∀ W, (W.cell? ⟨g, 0, none⟩ = some (.slice (some ⟨b, o, none⟩) len cap) ∧ W.cell? ⟨g, 1, none⟩ = some (.int .i64 i) ∧ Below w.heap.size w W) → Calls Tryd.prog 59 #[.slice (some ⟨b, o + i, none⟩) (len - i) (cap - i)] W fun e' w' => e' = .returned (Cd.gotL (xs.drop i)) ∧ Below W.heap.size W w' :=
      fun W hW => get_rest b o len cap i xs W (ho.below hW.2.2 hp) (hx.sl.below hW.2.2) h1 (cap - i) (by omega) (by unfold maxLen; omega)
    by_cases hbd : Im.bad5 (Im.ins (xs.drop i)) = -1
    · rw [gotL_ok hbd] at hG
      refine (instr_core g b o len cap i _ _ _ _ _ 0 0 w hb hi hle (by omega) (by omega) (by omega) (by omega) (by omega) hG).mono ?_
      rintro e w' (⟨_, rfl, hb', hr⟩ | ⟨h, _⟩)
      · exact ⟨hr, .inr (.inr ⟨h1, hbd, rfl, hb'⟩)⟩
      · exact absurd rfl h
    · have hgl : Cd.gotL (xs.drop i) = .tuple #[.agg #[.int .i64 0, .int .i64 0, .int .i64 0, .int .i64 0, .int .u64 0], .int .i64 (Cd.er (Im.bad5 (Im.ins (xs.drop i)))), .int .i64 (Cd.pl (Im.bad5 (Im.ins (xs.drop i))))] := by
        unfold Cd.gotL Cd.got
        exact if_neg hbd
      rw [hgl] at hG
      have hpl : 0 ≤ Cd.pl (Im.bad5 (Im.ins (xs.drop i))) ∧ Cd.pl (Im.bad5 (Im.ins (xs.drop i))) ≤ 4 := by
        rcases Cd.bad_cases ((Im.ins (xs.drop i)).op) ((Im.ins (xs.drop i)).a) ((Im.ins (xs.drop i)).b) ((Im.ins (xs.drop i)).c) ((Im.ins (xs.drop i)).m) with h | h | h | h | h | h
        all_goals
          rw [show Im.bad5 (Im.ins (xs.drop i)) = _ from h]
          decide
      refine (instr_core g b o len cap i _ _ _ _ _ _ _ w hb hi hle (by omega) (by omega) (by omega) hpl.1 (by omega) hG).mono ?_
      rintro e w' (⟨h, _⟩ | ⟨_, rfl, hr⟩)
      · exact absurd h (Im.er_ne hbd)
      · exact ⟨hr, .inr (.inl ⟨h1, hbd, rfl⟩)⟩
end Go.Proofs.YtjadiijjahjjoaaDoor
