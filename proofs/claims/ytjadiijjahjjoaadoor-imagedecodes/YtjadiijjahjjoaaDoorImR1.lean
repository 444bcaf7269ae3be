/-
  The reader: its memory; contracts of part and number.
-/
import Derived.Test.YtjadiijjahjjoaaDoorImW6
import Derived.Defers
import Derived.Recover
namespace Go.Proofs.YtjadiijjahjjoaaDoor
open Go.RowKit

/-- But for block g the world w' is as w was. -/
structure Rd (g : Nat) (w w' : World) : Prop where
  os : w'.os = w.os
  tape : w'.tape = w.tape
  output : w'.output = w.output
  size : w.heap.size ≤ w'.heap.size
  block : ∀ k, k < w.heap.size → k ≠ g → w'.heap[k]? = w.heap[k]?
theorem Rd.refl (g : Nat) (w : World) : Rd g w w := ⟨rfl, rfl, rfl, Nat.le_refl _, fun _ _ _ => rfl⟩
theorem Rd.trans {g : Nat} {a b c : World} (h : Rd g a b) (k : Rd g b c) : Rd g a c :=
  ⟨k.os.trans h.os, k.tape.trans h.tape, k.output.trans h.output, Nat.le_trans h.size k.size, fun i hi hn => (k.block i (Nat.lt_of_lt_of_le hi h.size) hn).trans (h.block i hi hn)⟩
theorem Rd.of_below {g : Nat} {w w' : World} (h : Below w.heap.size w w') : Rd g w w' := ⟨h.os, h.tape, h.output, h.size, fun k hk _ => h.block k hk⟩
theorem Rd.below {g B : Nat} {w w' : World} (h : Rd g w w') (hB : B ≤ g) (hw : B ≤ w.heap.size) : Below B w w' := ⟨h.os, h.tape, h.output, h.size, fun k hk => h.block k (by omega) (by omega)⟩
theorem Rd.set {g : Nat} (w : World) (o : Nat) (v : Value) : Rd g w (w.setCell ⟨g, o, none⟩ v) := ⟨rfl, rfl, rfl, by simp, fun k _ hn => Below.heap_setCell _ _ _ _ hn⟩
theorem Rd.drewN {g : Nat} {a w : World} (h : Rd g a w) (n : Nat) : Rd g a (w.drewN n) := ⟨h.os, h.tape, h.output, h.size, h.block⟩
theorem Rd.byts {g : Nat} {w w' : World} (h : Rd g w w') {b o : Nat} {xs : List Int} (hb : b ≠ g) (hl : b < w.heap.size) (hx : Byts w ⟨b, o, none⟩ xs) : Byts w' ⟨b, o, none⟩ xs := fun i hi => by
  have := hx i hi
  rw [add_at] at this ⊢
  exact (World.cell?_of_block (w := w) (h.block b hl hb)).trans this
/-- A slice of bytes that lies in another block. -/
structure ByR (g : Nat) (w : World) (A : Option Addr) (len cap : Nat) (xs : List Int) : Prop where
  sl : BySl w A len cap xs
  ne : 0 < len → ∀ b o s, A = some ⟨b, o, s⟩ → b ≠ g
theorem ByR.rd {g : Nat} {w w' : World} {A : Option Addr} {len cap : Nat} {xs : List Int} (h : ByR g w A len cap xs) (hr : Rd g w w') : ByR g w' A len cap xs :=
  ⟨⟨h.sl.hlen, h.sl.hle, h.sl.hcap, h.sl.hnone, h.sl.isB, fun h0 => by
    obtain ⟨b, o, e, hlt, hx⟩ := h.sl.mem h0
    exact ⟨b, o, e, Nat.lt_of_lt_of_le hlt hr.size, hr.byts (h.ne h0 b o none e) hlt hx⟩⟩, h.ne⟩

/-- The reader's block. -/
abbrev RB (w : World) (g : Nat) (A : Option Addr) (len cap : Nat) (at_ : Int) : Prop := w.heap[g]? = some (.cells #[.slice A len cap, .int .i64 at_] 56 (0, 0))
theorem RB.c0 {w : World} {g : Nat} {A : Option Addr} {len cap : Nat} {i : Int} (h : RB w g A len cap i) : w.cell? ⟨g, 0, none⟩ = some (.slice A len cap) := by rw [cell_of_row _ _ _ _ _ _ h]; rfl
theorem RB.c1 {w : World} {g : Nat} {A : Option Addr} {len cap : Nat} {i : Int} (h : RB w g A len cap i) : w.cell? ⟨g, 1, none⟩ = some (.int .i64 i) := by rw [cell_of_row _ _ _ _ _ _ h]; rfl
theorem RB.fr {w : World} {g : Nat} {A : Option Addr} {len cap : Nat} {i : Int} (h : RB w g A len cap i) : w.frozen? ⟨g, 1, none⟩ = false := Joins.unfrozen_of_block h 1
theorem RB.set {w : World} {g : Nat} {A : Option Addr} {len cap : Nat} {i : Int} (h : RB w g A len cap i) (j : Int) : RB (w.setCell ⟨g, 1, none⟩ (.int .i64 j)) g A len cap j := Joins.block_setCell h _
theorem RB.lt {w : World} {g : Nat} {A : Option Addr} {len cap : Nat} {i : Int} (h : RB w g A len cap i) : g < w.heap.size := blk_lt (t := 56) h

/-- What reading breaks off with. -/
def flt (e at_ : Int) : Ending := .panicked [{ v := .iface 53 (.agg #[.int .i64 e, .int .i64 at_]), recovered := false }]

theorem getD_cut {xs : List Int} {i n j : Nat} (h : j < n) : ((xs.drop i).take n).getD j 0 = xs.getD (i + j) 0 := by
  rw [List.getD_eq_getElem?_getD, List.getD_eq_getElem?_getD, List.getElem?_take_of_lt h, List.getElem?_drop]
theorem len_cut {xs : List Int} {i n : Nat} (h : i + n ≤ xs.length) : ((xs.drop i).take n).length = n := by
  rw [List.length_take, List.length_drop]; omega
theorem isB_cut {xs : List Int} (h : Cd.isB xs) (i n : Nat) : Cd.isB ((xs.drop i).take n) := isB_of fun x hx => Im.mem_isB h (List.mem_of_mem_drop (List.mem_of_mem_take hx))
theorem ByR.cut {g : Nat} {w : World} {b o len cap i n : Nat} {xs : List Int} (h : ByR g w (some ⟨b, o, none⟩) len cap xs) (hs : i + n ≤ len) : ByR g w (some ⟨b, o + i, none⟩) n (cap - i) ((xs.drop i).take n) := by
  have hl := h.sl.hlen
  have hle := h.sl.hle
  have hc := h.sl.hcap
  refine ⟨⟨len_cut (by omega), by omega, by omega, (fun e => by cases e), isB_cut h.sl.isB _ _, fun h0 => ?_⟩, fun h0 b' o' s e => ?_⟩
  · obtain ⟨b1, o1, e, hlt, hx⟩ := h.sl.mem (by omega)
    simp only [Option.some.injEq, Addr.mk.injEq, and_true] at e
    obtain ⟨rfl, rfl⟩ := e
    refine ⟨b, o + i, rfl, hlt, fun j hj => ?_⟩
    rw [len_cut (by omega)] at hj
    rw [add_at, getD_cut hj, Nat.add_assoc]
    exact hx.at0 (i + j) (by omega)
  · simp only [Option.some.injEq, Addr.mk.injEq] at e
    obtain ⟨rfl, _, _⟩ := e
    exact h.ne (by omega) b o none rfl
theorem ByR.cut0 {g : Nat} {w : World} {b o len cap i n : Nat} {xs : List Int} (h : ByR g w (some ⟨b, o, none⟩) len cap xs) (hs : i + n ≤ len) (hi : cap = i) : ByR g w (some ⟨b, o, none⟩) n 0 ((xs.drop i).take n) := by
  have hl := h.sl.hlen
  have hle := h.sl.hle
  obtain rfl : n = 0 := by omega
  refine ⟨⟨by rw [List.take_zero]; rfl, Nat.le_refl _, Nat.zero_le _, (fun e => by cases e), isB_cut h.sl.isB _ _, fun h0 => absurd h0 (by omega)⟩, fun h0 => absurd h0 (by omega)⟩
theorem RB.drewN {w : World} {g : Nat} {A : Option Addr} {len cap : Nat} {i : Int} (h : RB w g A len cap i) (n : Nat) : RB (w.drewN n) g A len cap i := h

set_option maxHeartbeats 800000 in
theorem part_short (g : Nat) (A : Option Addr) (len cap i n : Nat) (w : World) (hb : RB w g A len cap i) (hl : len ≤ 9223372036854775807) (hi : i ≤ len) (hn : n ≤ 100000) (hs : len < i + n) :
    Calls Tryd.prog 47 #[.pointer (some ⟨g, 0, none⟩), .int .i64 n] w fun e w' => e = flt 1 len ∧ Rd g w w' := by
  have c0 := hb.c0
  have c1 := hb.c1
  have h1 : ((len : Int) - i) < n := by omega
  clear hb hs
  go_enter Tryd.func47, Tryd.ntmps47
  go_wp2
  go_quiet (fail)
  go_wp2
  exact ⟨rfl, rfl, (Rd.refl _ _).drewN _⟩

set_option maxHeartbeats 800000 in
theorem part_ok (g b o len cap i n : Nat) (xs : List Int) (w : World) (hb : RB w g (some ⟨b, o, none⟩) len cap i) (hx : ByR g w (some ⟨b, o, none⟩) len cap xs) (hc : cap ≤ 9223372036854775807) (hs : i + n ≤ len) :
    Calls Tryd.prog 47 #[.pointer (some ⟨g, 0, none⟩), .int .i64 n] w fun e w' => ∃ A' cap', e = .returned (.slice A' n cap') ∧ ByR g w' A' n cap' ((xs.drop i).take n) ∧ RB w' g (some ⟨b, o, none⟩) len cap ((i : Int) + n) ∧ Rd g w w' ∧ A' ≠ none := by
  have c0 := hb.c0
  have c1 := hb.c1
  have cf := hb.fr
  have hl := hx.sl.hle
  have h1 : ¬ ((len : Int) - i) < n := by omega
  have HB := Lib.hid hb
  have HX := Lib.hid hx
  have hr : ∀ a c : Nat, Rd g w (((w.drewN a).setCell ⟨g, 1, none⟩ (.int .i64 ((i : Int) + n))).drewN c) := fun a c => (((Rd.refl g w).drewN a).trans (Rd.set _ _ _)).drewN c
  have HR := Lib.hid hr
  clear hb hx hr
  go_enter Tryd.func47, Tryd.ntmps47
  go_wp2
  go_quiet (fail)
  go_wp2
  go_quiet (fail)
  go_wp2
  · go_ret
    have hci : cap = i := by assumption
    subst hci
    exact ⟨_, _, rfl, (HX.out.rd (HR.out _ _)).cut0 hs rfl, RB.drewN (RB.set (RB.drewN HB.out _) _) _, HR.out _ _, by simp⟩
  · go_ret
    exact ⟨_, _, rfl, (HX.out.rd (HR.out _ _)).cut hs, RB.drewN (RB.set (RB.drewN HB.out _) _) _, HR.out _ _, by simp⟩
end Go.Proofs.YtjadiijjahjjoaaDoor
