/-
  The reference's front.
-/
import Derived.Test.YtjadiijjahjjoaaDoorImN4
import Derived.Test.YtjadiijjahjjoaaDoorImL2
namespace Go.Proofs.YtjadiijjahjjoaaDoor
open Go.RowKit

/-- A block of nine cells: what was read. -/
abbrev NB (W : World) (G : Nat) (a b c d e f x y z : Value) : Prop := W.heap[G]? = some (.cells #[a, b, c, d, e, f, x, y, z] 62 (0, 0))
section
variable {W : World} {G : Nat} {a b c d e f x y z : Value}
theorem NB.c0 (h : NB W G a b c d e f x y z) : W.cell? ⟨G, 0, none⟩ = some a := by rw [cell_of_row _ _ _ _ _ _ h]; rfl
theorem NB.c1 (h : NB W G a b c d e f x y z) : W.cell? ⟨G, 1, none⟩ = some b := by rw [cell_of_row _ _ _ _ _ _ h]; rfl
theorem NB.c2 (h : NB W G a b c d e f x y z) : W.cell? ⟨G, 2, none⟩ = some c := by rw [cell_of_row _ _ _ _ _ _ h]; rfl
theorem NB.c3 (h : NB W G a b c d e f x y z) : W.cell? ⟨G, 3, none⟩ = some d := by rw [cell_of_row _ _ _ _ _ _ h]; rfl
theorem NB.c4 (h : NB W G a b c d e f x y z) : W.cell? ⟨G, 4, none⟩ = some e := by rw [cell_of_row _ _ _ _ _ _ h]; rfl
theorem NB.c5 (h : NB W G a b c d e f x y z) : W.cell? ⟨G, 5, none⟩ = some f := by rw [cell_of_row _ _ _ _ _ _ h]; rfl
theorem NB.c6 (h : NB W G a b c d e f x y z) : W.cell? ⟨G, 6, none⟩ = some x := by rw [cell_of_row _ _ _ _ _ _ h]; rfl
theorem NB.c7 (h : NB W G a b c d e f x y z) : W.cell? ⟨G, 7, none⟩ = some y := by rw [cell_of_row _ _ _ _ _ _ h]; rfl
theorem NB.c8 (h : NB W G a b c d e f x y z) : W.cell? ⟨G, 8, none⟩ = some z := by rw [cell_of_row _ _ _ _ _ _ h]; rfl
theorem NB.s0 (h : NB W G a b c d e f x y z) (u : Value) : NB (W.setCell ⟨G, 0, none⟩ u) G u b c d e f x y z := Joins.block_setCell h u
theorem NB.s1 (h : NB W G a b c d e f x y z) (u : Value) : NB (W.setCell ⟨G, 1, none⟩ u) G a u c d e f x y z := Joins.block_setCell h u
theorem NB.s2 (h : NB W G a b c d e f x y z) (u : Value) : NB (W.setCell ⟨G, 2, none⟩ u) G a b u d e f x y z := Joins.block_setCell h u
theorem NB.s3 (h : NB W G a b c d e f x y z) (u : Value) : NB (W.setCell ⟨G, 3, none⟩ u) G a b c u e f x y z := Joins.block_setCell h u
theorem NB.s4 (h : NB W G a b c d e f x y z) (u : Value) : NB (W.setCell ⟨G, 4, none⟩ u) G a b c d u f x y z := Joins.block_setCell h u
theorem NB.s5 (h : NB W G a b c d e f x y z) (u : Value) : NB (W.setCell ⟨G, 5, none⟩ u) G a b c d e u x y z := Joins.block_setCell h u
theorem NB.s6 (h : NB W G a b c d e f x y z) (u : Value) : NB (W.setCell ⟨G, 6, none⟩ u) G a b c d e f u y z := Joins.block_setCell h u
theorem NB.s7 (h : NB W G a b c d e f x y z) (u : Value) : NB (W.setCell ⟨G, 7, none⟩ u) G a b c d e f x u z := Joins.block_setCell h u
theorem NB.s8 (h : NB W G a b c d e f x y z) (u : Value) : NB (W.setCell ⟨G, 8, none⟩ u) G a b c d e f x y u := Joins.block_setCell h u
theorem NB.fr (h : NB W G a b c d e f x y z) (i : Nat) : W.frozen? ⟨G, i, none⟩ = false := Joins.unfrozen_of_block h i
theorem NB.lt (h : NB W G a b c d e f x y z) : G < W.heap.size := blk_lt (t := 62) h
theorem NB.other (h : NB W G a b c d e f x y z) {p : Addr} (hp : G ≠ p.block) (u : Value) : NB (W.setCell p u) G a b c d e f x y z := (Below.heap_setCell _ _ _ _ hp).trans h
theorem NB.keep {W' : World} (h : NB W G a b c d e f x y z) (hb : Below W.heap.size W W') : NB W' G a b c d e f x y z := (hb.block G h.lt).trans h
theorem NB.all (h : NB W G a b c d e f x y z) (a' b' c' d' e' f' x' y' z' : Value) : NB (((((((((W.setCell ⟨G, 0, none⟩ a').setCell ⟨G, 1, none⟩ b').setCell ⟨G, 2, none⟩ c').setCell ⟨G, 3, none⟩ d').setCell ⟨G, 4, none⟩ e').setCell ⟨G, 5, none⟩ f').setCell ⟨G, 6, none⟩ x').setCell ⟨G, 7, none⟩ y').setCell ⟨G, 8, none⟩ z') G a' b' c' d' e' f' x' y' z' :=
  ((((((((h.s0 _).s1 _).s2 _).s3 _).s4 _).s5 _).s6 _).s7 _).s8 _
end
theorem set9_below {B G : Nat} {w W : World} (h : Below B w W) (hg : B ≤ G) (a b c d e f x y z : Value) : Below B w (((((((((W.setCell ⟨G, 0, none⟩ a).setCell ⟨G, 1, none⟩ b).setCell ⟨G, 2, none⟩ c).setCell ⟨G, 3, none⟩ d).setCell ⟨G, 4, none⟩ e).setCell ⟨G, 5, none⟩ f).setCell ⟨G, 6, none⟩ x).setCell ⟨G, 7, none⟩ y).setCell ⟨G, 8, none⟩ z) :=
  ((((((((h.setCell hg _).setCell hg _).setCell hg _).setCell hg _).setCell hg _).setCell hg _).setCell hg _).setCell hg _).setCell hg _

namespace Im
/-- The parts below k are right. -/
structure Upto (xs : List Int) (k : Nat) : Prop where
  l4 : 4 ≤ xs.length
  le : k ≤ xs.length
  lt : xs.take 4 = letters
  p4 : 4 < k → xs.getD 4 0 = 1
  p5 : 5 < k → xs.getD 5 0 ≤ 64
  p6 : 6 < k → xs.getD 6 0 ≤ 16
  p7 : 7 < k → xs.getD 7 0 ≤ 16
  p8 : 8 < k → xs.getD 8 0 ≤ xs.getD 5 0
section
variable {xs : List Int} {k : Nat}
theorem Upto.start (h4 : 4 ≤ xs.length) (h : xs.take 4 = letters) : Upto xs 4 := ⟨h4, h4, h, fun h => by omega, fun h => by omega, fun h => by omega, fun h => by omega, fun h => by omega⟩
theorem Upto.a (h : Upto xs k) (hk : 4 < k) : dE xs = t5 xs := by
  have := h.le
  unfold dE dA
  rw [if_neg (by omega), if_pos h.lt, if_neg (by omega), if_pos (h.p4 hk)]
theorem Upto.b (h : Upto xs k) (hB : Cd.isB xs) (hk : 5 < k) : dE xs = t6 xs := by
  have := h.le
  rw [h.a (by omega)]
  exact nm_ok (by omega) (hB 5).1 (h.p5 hk) _
theorem Upto.c (h : Upto xs k) (hB : Cd.isB xs) (hk : 6 < k) : dE xs = t7 xs := by
  have := h.le
  rw [h.b hB (by omega)]
  exact nm_ok (by omega) (hB 6).1 (h.p6 hk) _
theorem Upto.d (h : Upto xs k) (hB : Cd.isB xs) (hk : 7 < k) : dE xs = t8 xs := by
  have := h.le
  rw [h.c hB (by omega)]
  exact nm_ok (by omega) (hB 7).1 (h.p7 hk) _
theorem Upto.e (h : Upto xs k) (hB : Cd.isB xs) (hk : 8 < k) : dE xs = t9 xs := by
  have := h.le
  rw [h.d hB (by omega)]
  exact nm_ok (by omega) (hB 8).1 (h.p8 hk) _
theorem Upto.sh4 (h : Upto xs 4) (e : xs.length = 4) : dE xs = (1, 4) := by
  unfold dE dA
  rw [if_neg (by omega), if_pos h.lt, if_pos (by omega), e]; rfl
theorem Upto.sh5 (h : Upto xs 5) (hB : Cd.isB xs) (e : xs.length = 5) : dE xs = (1, 5) := by
  rw [h.a (by omega)]; unfold t5; rw [nm_short (by omega), e]; rfl
theorem Upto.sh6 (h : Upto xs 6) (hB : Cd.isB xs) (e : xs.length = 6) : dE xs = (1, 6) := by
  rw [h.b hB (by omega)]; unfold t6; rw [nm_short (by omega), e]; rfl
theorem Upto.sh7 (h : Upto xs 7) (hB : Cd.isB xs) (e : xs.length = 7) : dE xs = (1, 7) := by
  rw [h.c hB (by omega)]; unfold t7; rw [nm_short (by omega), e]; rfl
theorem Upto.sh8 (h : Upto xs 8) (hB : Cd.isB xs) (e : xs.length = 8) : dE xs = (1, 8) := by
  rw [h.d hB (by omega)]; unfold t8; rw [nm_short (by omega), e]; rfl
theorem Upto.bad4 (h : Upto xs 4) (hl : 4 < xs.length) (hz : xs.getD 4 0 ≠ 1) : dE xs = (2, 4) := by
  unfold dE dA
  rw [if_neg (by omega), if_pos h.lt, if_neg (by omega), if_neg hz]
theorem Upto.bad5 (h : Upto xs 5) (hB : Cd.isB xs) (hl : 5 < xs.length) (hz : 64 < xs.getD 5 0) : dE xs = (3, 5) := by
  rw [h.a (by omega)]; unfold t5; rw [nm_bad (by omega) (by rw [num1]; omega)]; rfl
theorem Upto.bad6 (h : Upto xs 6) (hB : Cd.isB xs) (hl : 6 < xs.length) (hz : 16 < xs.getD 6 0) : dE xs = (3, 6) := by
  rw [h.b hB (by omega)]; unfold t6; rw [nm_bad (by omega) (by rw [num1]; omega)]; rfl
theorem Upto.bad7 (h : Upto xs 7) (hB : Cd.isB xs) (hl : 7 < xs.length) (hz : 16 < xs.getD 7 0) : dE xs = (3, 7) := by
  rw [h.c hB (by omega)]; unfold t7; rw [nm_bad (by omega) (by rw [num1]; omega)]; rfl
theorem Upto.bad8 (h : Upto xs 8) (hB : Cd.isB xs) (hl : 8 < xs.length) (hz : xs.getD 5 0 < xs.getD 8 0) : dE xs = (3, 8) := by
  rw [h.d hB (by omega)]; unfold t8; rw [nm_bad (by omega) (by rw [num1, num1]; omega)]; rfl
theorem Upto.n4 (h : Upto xs 4) (hl : 4 < xs.length) (hz : xs.getD 4 0 = 1) : Upto xs 5 := ⟨h.l4, hl, h.lt, fun _ => hz, fun h => by omega, fun h => by omega, fun h => by omega, fun h => by omega⟩
theorem Upto.n5 (h : Upto xs 5) (hl : 5 < xs.length) (hz : xs.getD 5 0 ≤ 64) : Upto xs 6 := ⟨h.l4, hl, h.lt, fun _ => h.p4 (by omega), fun _ => hz, fun h => by omega, fun h => by omega, fun h => by omega⟩
theorem Upto.n6 (h : Upto xs 6) (hl : 6 < xs.length) (hz : xs.getD 6 0 ≤ 16) : Upto xs 7 := ⟨h.l4, hl, h.lt, fun _ => h.p4 (by omega), fun _ => h.p5 (by omega), fun _ => hz, fun h => by omega, fun h => by omega⟩
theorem Upto.n7 (h : Upto xs 7) (hl : 7 < xs.length) (hz : xs.getD 7 0 ≤ 16) : Upto xs 8 := ⟨h.l4, hl, h.lt, fun _ => h.p4 (by omega), fun _ => h.p5 (by omega), fun _ => h.p6 (by omega), fun _ => hz, fun h => by omega⟩
theorem Upto.n8 (h : Upto xs 8) (hl : 8 < xs.length) (hz : xs.getD 8 0 ≤ xs.getD 5 0) : Upto xs 9 := ⟨h.l4, hl, h.lt, fun _ => h.p4 (by omega), fun _ => h.p5 (by omega), fun _ => h.p6 (by omega), fun _ => h.p7 (by omega), fun _ => hz⟩
end
end Im

/-- A fault. -/
abbrev fv (a b : Int) : Value := .agg #[.int .i64 0, .int .i64 0, .int .i64 0, .slice none 0 0, .slice none 0 0, .slice none 0 0, .int .i64 0, .int .i64 a, .int .i64 b]
/-- What front does. -/
def FrP (xs : List Int) (w : World) (e : Ending) (w' : World) : Prop :=
  Below w.heap.size w w' ∧ ((∃ a b, Im.dE xs = (a, b) ∧ a ≠ 0 ∧ e = .returned (fv a b)) ∨
    (Im.dE xs = Im.t10 xs ∧ 9 + Im.nd xs ≤ xs.length ∧ ∃ Ad ld cd, e = .returned (.agg #[.int .i64 (Im.num xs 5 1), .int .i64 (Im.num xs 6 1), .int .i64 (Im.num xs 7 1), .slice Ad ld cd, .slice none 0 0, .slice none 0 0, .int .i64 ((9 + Im.nd xs : Nat) : Int), .int .i64 0, .int .i64 0]) ∧ BySl w' Ad ld cd ((xs.drop 9).take (Im.nd xs)) ∧ (∀ b o s, Ad = some ⟨b, o, s⟩ → w.heap.size ≤ b)))
theorem FrP.bad {xs : List Int} {w w' : World} {a b : Int} (hb : Below w.heap.size w w') (h : Im.dE xs = (a, b)) (ha : a ≠ 0) : FrP xs w (.returned (fv a b)) w' := ⟨hb, .inl ⟨a, b, h, ha, rfl⟩⟩
def FrRel (xs : List Int) (a : Value) : Prop := (a = .int .i64 4 ∧ Im.Upto xs 4) ∨ (a = .int .i64 5 ∧ Im.Upto xs 5) ∨ (a = .int .i64 6 ∧ Im.Upto xs 6) ∨ (a = .int .i64 7 ∧ Im.Upto xs 7) ∨ (a = .int .i64 8 ∧ Im.Upto xs 8) ∨ (a = .int .i64 9 ∧ Im.Upto xs 9)

set_option maxHeartbeats 800000 in
theorem front_short (A : Option Addr) (len cap : Nat) (xs : List Int) (w : World) (hx : BySl w A len cap xs) (hl : len < 4) : Calls Tryd.prog 31 #[.slice A len cap] w (FrP xs w) := by
  have hlen := hx.hlen
  have hd : Im.dE xs = (1, (len : Int)) := by unfold Im.dE Im.dA; rw [hlen, if_pos hl]
  have HD := Lib.hid hd
  have hNB : NB (w.alloc (.cells #[.int .i64 0, .int .i64 0, .int .i64 0, .slice none 0 0, .slice none 0 0, .slice none 0 0, .int .i64 0, .int .i64 0, .int .i64 0] 62)) w.heap.size (.int .i64 0) (.int .i64 0) (.int .i64 0) (.slice none 0 0) (.slice none 0 0) (.slice none 0 0) (.int .i64 0) (.int .i64 0) (.int .i64 0) := heap_alloc_new w _
  have HNB := Lib.hid hNB
  clear hd hNB hx hlen
  go_enter Tryd.func31, Tryd.ntmps31
  go_wp2_with fail
  refine (rfault_any _ _ _).mono ?_
  rintro e v ⟨rfl, hb⟩
  have HN := Lib.hid (HNB.out.keep hb)
  have HB := Lib.hid ((Below.box w (.cells #[.int .i64 0, .int .i64 0, .int .i64 0, .slice none 0 0, .slice none 0 0, .slice none 0 0, .int .i64 0, .int .i64 0, .int .i64 0] 62)).trans (hb.mono (by simp)))
  have c0 := HN.out.c0
  have c1 := HN.out.c1
  have c2 := HN.out.c2
  have c3 := HN.out.c3
  have c4 := HN.out.c4
  have c5 := HN.out.c5
  have c6 := HN.out.c6
  have c7 := HN.out.c7
  have c8 := HN.out.c8
  have fr := HN.out.fr
  clear hb
  go_wp2
  have hall := NB.all HN.out (.int .i64 0) (.int .i64 0) (.int .i64 0) (.slice none 0 0) (.slice none 0 0) (.slice none 0 0) (.int .i64 0) (.int .i64 1) (.int .i64 len)
  have hbel := set9_below HB.out (Nat.le_refl w.heap.size) (.int .i64 0) (.int .i64 0) (.int .i64 0) (.slice none 0 0) (.slice none 0 0) (.slice none 0 0) (.int .i64 0) (.int .i64 1) (.int .i64 len)
  clear c0 c1 c2 c3 c4 c5 c6 c7 c8 fr HN HB
  revert hall hbel
  generalize (((((((((v.setCell ⟨w.heap.size, 0, none⟩ (.int .i64 0)).setCell ⟨w.heap.size, 1, none⟩ (.int .i64 0)).setCell ⟨w.heap.size, 2, none⟩ (.int .i64 0)).setCell ⟨w.heap.size, 3, none⟩ (.slice none 0 0)).setCell ⟨w.heap.size, 4, none⟩ (.slice none 0 0)).setCell ⟨w.heap.size, 5, none⟩ (.slice none 0 0)).setCell ⟨w.heap.size, 6, none⟩ (.int .i64 0)).setCell ⟨w.heap.size, 7, none⟩ (.int .i64 1)).setCell ⟨w.heap.size, 8, none⟩ (.int .i64 len)) = W'
  intro hall hbel
  have k0 := hall.c0
  have k1 := hall.c1
  have k2 := hall.c2
  have k3 := hall.c3
  have k4 := hall.c4
  have k5 := hall.c5
  have k6 := hall.c6
  have k7 := hall.c7
  have k8 := hall.c8
  refine bodyPost_ret (v := fv 1 len) (by simp [results, Tryd.results31, go_sem, k0, k1, k2, k3, k4, k5, k6, k7, k8]) rfl (FrP.bad hbel HD.out (by decide))

set_option maxRecDepth 20000 in
set_option maxHeartbeats 800000 in
theorem front_form (b o len cap : Nat) (xs : List Int) (w : World) (hx : BySl w (some ⟨b, o, none⟩) len cap xs) (hl : 4 ≤ len) (hle : xs.take 4 ≠ Im.letters) : Calls Tryd.prog 31 #[.slice (some ⟨b, o, none⟩) len cap] w (FrP xs w) := by
  have hlen := hx.hlen
  have hlc := hx.hle
  have hcp := hx.hcap
  unfold maxLen at hcp
  have hd : Im.dE xs = (2, 0) := by unfold Im.dE Im.dA; rw [if_neg (by omega), if_neg hle]
  have HD := Lib.hid hd
  have hNB : NB (w.alloc (.cells #[.int .i64 0, .int .i64 0, .int .i64 0, .slice none 0 0, .slice none 0 0, .slice none 0 0, .int .i64 0, .int .i64 0, .int .i64 0] 62)) w.heap.size (.int .i64 0) (.int .i64 0) (.int .i64 0) (.slice none 0 0) (.slice none 0 0) (.slice none 0 0) (.int .i64 0) (.int .i64 0) (.int .i64 0) := heap_alloc_new w _
  have HNB := Lib.hid hNB
  have hcv := by_str ((hx.below (Below.box w (.cells #[.int .i64 0, .int .i64 0, .int .i64 0, .slice none 0 0, .slice none 0 0, .slice none 0 0, .int .i64 0, .int .i64 0, .int .i64 0] 62))).take (n := 4) hl)
  have hne := letters_ne hx.isB hle
  obtain ⟨S, hS⟩ : ∃ S, strOfNums (xs.take 4) = S := ⟨_, rfl⟩
  rw [hS] at hne hcv
  have hbe : (S.toList == [82, 66, 54, 52]) = false := by
    rw [Bool.eq_false_iff]
    intro h
    have h' : S.toList = [82, 66, 54, 52] := by simpa using h
    rw [ByteArray.toList_eq] at h'
    exact hne (WideShapes.bytes_inj (a := S) (b := ⟨#[82, 66, 54, 52]⟩) h')
  have h4 : (4 : Int) ≤ cap := by omega
  clear hd hNB hx hlen hS hne hle
  go_enter Tryd.func31, Tryd.ntmps31
  go_wp2_with fail
  refine (rfault_any _ _ _).mono ?_
  rintro e v ⟨rfl, hb⟩
  have HN := Lib.hid (HNB.out.keep hb)
  have HB := Lib.hid ((Below.box w (.cells #[.int .i64 0, .int .i64 0, .int .i64 0, .slice none 0 0, .slice none 0 0, .slice none 0 0, .int .i64 0, .int .i64 0, .int .i64 0] 62)).trans (hb.mono (by simp)))
  have c0 := HN.out.c0
  have c1 := HN.out.c1
  have c2 := HN.out.c2
  have c3 := HN.out.c3
  have c4 := HN.out.c4
  have c5 := HN.out.c5
  have c6 := HN.out.c6
  have c7 := HN.out.c7
  have c8 := HN.out.c8
  have fr := HN.out.fr
  clear hb
  go_wp2
  have hall := NB.all HN.out (.int .i64 0) (.int .i64 0) (.int .i64 0) (.slice none 0 0) (.slice none 0 0) (.slice none 0 0) (.int .i64 0) (.int .i64 2) (.int .i64 0)
  have hbel := set9_below HB.out (Nat.le_refl w.heap.size) (.int .i64 0) (.int .i64 0) (.int .i64 0) (.slice none 0 0) (.slice none 0 0) (.slice none 0 0) (.int .i64 0) (.int .i64 2) (.int .i64 0)
  clear c0 c1 c2 c3 c4 c5 c6 c7 c8 fr HN HB
  revert hall hbel
  generalize (((((((((v.setCell ⟨w.heap.size, 0, none⟩ (.int .i64 0)).setCell ⟨w.heap.size, 1, none⟩ (.int .i64 0)).setCell ⟨w.heap.size, 2, none⟩ (.int .i64 0)).setCell ⟨w.heap.size, 3, none⟩ (.slice none 0 0)).setCell ⟨w.heap.size, 4, none⟩ (.slice none 0 0)).setCell ⟨w.heap.size, 5, none⟩ (.slice none 0 0)).setCell ⟨w.heap.size, 6, none⟩ (.int .i64 0)).setCell ⟨w.heap.size, 7, none⟩ (.int .i64 2)).setCell ⟨w.heap.size, 8, none⟩ (.int .i64 0)) = W'
  intro hall hbel
  have k0 := hall.c0
  have k1 := hall.c1
  have k2 := hall.c2
  have k3 := hall.c3
  have k4 := hall.c4
  have k5 := hall.c5
  have k6 := hall.c6
  have k7 := hall.c7
  have k8 := hall.c8
  refine bodyPost_ret (v := fv 2 0) (by simp [results, Tryd.results31, go_sem, k0, k1, k2, k3, k4, k5, k6, k7, k8]) rfl (FrP.bad hbel HD.out (by decide))

theorem k3_below {W v : World} {B : Nat} {a1 a2 a3 : Addr} {x y z : Value} (hb : Below B W v) (h1 : a1.block < B) (h2 : a2.block < B) (h3 : a3.block < B) (h : W.cell? a1 = some x ∧ W.cell? a2 = some y ∧ W.cell? a3 = some z) : v.cell? a1 = some x ∧ v.cell? a2 = some y ∧ v.cell? a3 = some z :=
  ⟨(World.cell?_of_block (hb.block _ h1)).trans h.1, (World.cell?_of_block (hb.block _ h2)).trans h.2.1, (World.cell?_of_block (hb.block _ h3)).trans h.2.2⟩


theorem own_far {w : World} {base : Nat} {A : Option Addr} {n cap : Nat} {e : TypeId} {xs : List Value} (h : w.ownsRow (base + 1) e 1 (.slice A n cap) n xs) : ∀ b o s, A = some ⟨b, o, s⟩ → base < b := fun b o s e => by
  obtain ⟨A', cap', he, _, _, _, hk⟩ := Sl.of_own h
  have := hk b (by subst e; rfl)
  omega
theorem rd6 {g : Nat} (W : World) (a b c d e f : Value) : Rd g W ((((((W.setCell ⟨g, 0, none⟩ a).setCell ⟨g, 1, none⟩ b).setCell ⟨g, 2, none⟩ c).setCell ⟨g, 3, none⟩ d).setCell ⟨g, 4, none⟩ e).setCell ⟨g, 5, none⟩ f) :=
  (((((Rd.set W 0 a).trans (Rd.set _ 1 b)).trans (Rd.set _ 2 c)).trans (Rd.set _ 3 d)).trans (Rd.set _ 4 e)).trans (Rd.set _ 5 f)
theorem rd9 {g : Nat} (W : World) (a b c d e f x y z : Value) : Rd g W (((((((((W.setCell ⟨g, 0, none⟩ a).setCell ⟨g, 1, none⟩ b).setCell ⟨g, 2, none⟩ c).setCell ⟨g, 3, none⟩ d).setCell ⟨g, 4, none⟩ e).setCell ⟨g, 5, none⟩ f).setCell ⟨g, 6, none⟩ x).setCell ⟨g, 7, none⟩ y).setCell ⟨g, 8, none⟩ z) :=
  (((rd6 W a b c d e f).trans (Rd.set _ 6 x)).trans (Rd.set _ 7 y)).trans (Rd.set _ 8 z)

set_option maxHeartbeats 400000 in
theorem run_store6 {W : World} {G : Nat} {a b c d e f : Value} (h : PB W G a b c d e f) (x0 x1 x2 : Int) (A : Option Addr) (n m : Nat) :
    (Instr.storeAt 26 (.pointer (some ⟨G, 0, none⟩)) (.agg #[.int .i64 x0, .int .i64 x1, .int .i64 x2, .slice A n m, .slice none 0 0, .slice none 0 0])).run Tryd.prog W = .ok () ((((((W.setCell ⟨G, 0, none⟩ (.int .i64 x0)).setCell ⟨G, 1, none⟩ (.int .i64 x1)).setCell ⟨G, 2, none⟩ (.int .i64 x2)).setCell ⟨G, 3, none⟩ (.slice A n m)).setCell ⟨G, 4, none⟩ (.slice none 0 0)).setCell ⟨G, 5, none⟩ (.slice none 0 0)) := by
  have c0 := h.c0
  have c1 := h.c1
  have c2 := h.c2
  have c3 := h.c3
  have c4 := h.c4
  have c5 := h.c5
  have f0 := h.fr 0
  have f1 := h.fr 1
  have f2 := h.fr 2
  have f3 := h.fr 3
  have f4 := h.fr 4
  have f5 := h.fr 5
  clear h
  go_simp

theorem set6_below {B G : Nat} {w W : World} (h : Below B w W) (hg : B ≤ G) (a b c d e f : Value) : Below B w ((((((W.setCell ⟨G, 0, none⟩ a).setCell ⟨G, 1, none⟩ b).setCell ⟨G, 2, none⟩ c).setCell ⟨G, 3, none⟩ d).setCell ⟨G, 4, none⟩ e).setCell ⟨G, 5, none⟩ f) :=
  (((((h.setCell hg _).setCell hg _).setCell hg _).setCell hg _).setCell hg _).setCell hg _

theorem step_ap' {P : Program} {w : World} {ops : Array Oper} {o : Oper} {a : Act} {K : Act → World → Prop} {Q : Exit → Act → World → Prop} {E : Prop} (hgd : o.guard = none) (s x : Operand) (t : TypeId)
    (ho : o.op = .call { callee := .builtin .append, args := #[s, x], argTypes := #[t, t] })
    (base : Nat) (e : TypeId) (i : TypeInfo) (z : Value) (bytes : Nat) (ht : P.underlying t = some (.slice e)) (hi : P.info? e = some i) (hz : i.zero = some z)
    (hsize : i.size = 1) (hby : i.bytes = bytes) (hzs : z.cells.size = 1)
    (v : Value) (n : Nat) (xs : List Value) (hs : a.eval s = v) (hown : w.ownsRow base e 1 v n xs)
    (ad : Addr) (m c : Nat) (news : List Value) (hx : a.eval x = .slice (some ad) m c) (hr : Sl w (some ad) m news) (h1 : ∀ u ∈ news, u.oneCell' = true)
    (h63 : n + m ≤ maxLen) (hbytes : (n + m) * bytes ≤ 140737488355328) (hbase : base ≤ w.heap.size) (N : Nat) (L : List Value) (hN : n + m = N) (hL : xs ++ news = L)
    (h : ∀ A' cap' w', w'.ownsRow base e 1 (.slice A' N cap') N L → Below base w w' → w.grownBy w' v.ownBlock → ((Value.slice A' N cap').ownBlock = v.ownBlock ∨ (Value.slice A' N cap').ownBlock = some w.heap.size) → K (a.put o.dst (.slice A' N cap')) w') :
    if Region.wanted o (yielded ops a.tmps) = true then Oper.wp P o a w K Q else E := by
  subst hN hL
  have hw : Region.wanted o (yielded ops a.tmps) = true := by simp [Region.wanted, hgd]
  rw [if_pos hw]
  obtain ⟨_, _, _, _, _, _, hk⟩ := Sl.of_own hown
  have hcells : ∀ j u, news[j]? = some u → w.cell? (ad.add j) = some u := fun j u hu => by
    rcases Nat.eq_zero_or_pos m with h0 | h0
    · have hn : news = [] := List.eq_nil_of_length_eq_zero (hr.1.trans h0)
      subst hn
      simp at hu
    · obtain ⟨b, o', he, _, hc⟩ := hr.2 h0
      injection he with he
      subst he
      exact hc j u hu
  obtain ⟨v', w', hrun, h2, h3, _, h5⟩ := run_append_own_at (P := P) w base t o.type e i z 1 bytes ht hi hz hsize hby hzs (by omega) v n xs hown ad m c news (by rw [hr.1]; omega) hcells h1 h63 hbytes hbase
  have h4 := (Below.refl base w).grown h3 hbase hk
  obtain ⟨A', cap', rfl, hc1, hc2, hsl, _⟩ := Sl.of_own h2
  unfold Oper.wp execOp
  simp only [ho, resolve, invoke, builtin, Sem.run_bind, Sem.run_pure, Result.andThen_ok, List.map_toArray, List.map_cons, List.map_nil, hs, hx, hrun]
  exact h A' cap' w' h2 h4 h3 h5

set_option maxRecDepth 20000 in
set_option maxHeartbeats 3200000 in
theorem front_main (b o len cap : Nat) (xs : List Int) (w : World) (hx : BySl w (some ⟨b, o, none⟩) len cap xs) (hl : 4 ≤ len) (hle : xs.take 4 = Im.letters) : Calls Tryd.prog 31 #[.slice (some ⟨b, o, none⟩) len cap] w (FrP xs w) := by
  obtain ⟨i0, hi0, hz0, hz1, hz2⟩ := info_parts u8_info
  have hlen := hx.hlen
  have hlc := hx.hle
  have hcp := hx.hcap
  unfold maxLen at hcp
  have HB8 := Lib.hid hx.isB
  have HLEN := Lib.hid hlen
  have hbx := hx.below (Below.box w (.cells #[.int .i64 0, .int .i64 0, .int .i64 0, .slice none 0 0, .slice none 0 0, .slice none 0 0, .int .i64 0, .int .i64 0, .int .i64 0] 62))
  have hNB : NB (w.alloc (.cells #[.int .i64 0, .int .i64 0, .int .i64 0, .slice none 0 0, .slice none 0 0, .slice none 0 0, .int .i64 0, .int .i64 0, .int .i64 0] 62)) w.heap.size (.int .i64 0) (.int .i64 0) (.int .i64 0) (.slice none 0 0) (.slice none 0 0) (.slice none 0 0) (.int .i64 0) (.int .i64 0) (.int .i64 0) := heap_alloc_new w _
  have HNB := Lib.hid hNB
  have HX := Lib.hid hbx
  have HXW := Lib.hid hx
  have hcv := by_str (hbx.take (n := 4) hl)
  rw [hle, letters_str] at hcv
  have HLE := Lib.hid hle
  have h4 : (4 : Int) ≤ cap := by omega
  obtain ⟨b', o', he, hbw, hby⟩ := hx.mem (by omega)
  simp only [Option.some.injEq, Addr.mk.injEq, and_true] at he
  obtain ⟨rfl, rfl⟩ := he
  have HCE := Lib.hid (fun i (hi : i < len) => (Below.cell (Below.box w (.cells #[.int .i64 0, .int .i64 0, .int .i64 0, .slice none 0 0, .slice none 0 0, .slice none 0 0, .int .i64 0, .int .i64 0, .int .i64 0] 62)) (p := ⟨b, o + i, none⟩) hbw).trans (hby.at0 i (by rw [hlen]; exact hi)))
  clear hNB hx hlen hle hbx hby
  go_enter Tryd.func31, Tryd.ntmps31
  go_wp2
  clear hcv
  go_loop [3, 4] (fun a n => FrRel xs a) (fun a _ => 9 - (intOf a).toNat)
  case atStart => exact .inl ⟨rfl, Im.Upto.start (by rw [HLEN.out]; exact hl) HLE.out⟩
  case round =>
    rcases hrel with ⟨rfl, hu⟩ | ⟨rfl, hu⟩ | ⟨rfl, hu⟩ | ⟨rfl, hu⟩ | ⟨rfl, hu⟩ | ⟨rfl, hu⟩
    · have HU := Lib.hid hu
      have hkl : 4 ≤ len := by have := hu.le; rw [HLEN.out] at this; exact this
      clear hu
      by_cases hlk : len = 4
      · have hq : (((4 : Int)) == (len : Int)) = true := by simp [hlk]
        have HD := Lib.hid (HU.out.sh4 (by rw [HLEN.out]; exact hlk))
        clear hlk
        go_wp2_with fail
        refine (rfault_any _ _ _).mono ?_
        rintro e v ⟨rfl, hb⟩
        have HN := Lib.hid (HNB.out.keep hb)
        have HB := Lib.hid ((Below.box w (.cells #[.int .i64 0, .int .i64 0, .int .i64 0, .slice none 0 0, .slice none 0 0, .slice none 0 0, .int .i64 0, .int .i64 0, .int .i64 0] 62)).trans (hb.mono (by simp)))
        have c0 := HN.out.c0
        have c1 := HN.out.c1
        have c2 := HN.out.c2
        have c3 := HN.out.c3
        have c4 := HN.out.c4
        have c5 := HN.out.c5
        have c6 := HN.out.c6
        have c7 := HN.out.c7
        have c8 := HN.out.c8
        have fr := HN.out.fr
        clear hb
        go_wp2
        have hall := NB.all HN.out (.int .i64 0) (.int .i64 0) (.int .i64 0) (.slice none 0 0) (.slice none 0 0) (.slice none 0 0) (.int .i64 0) (.int .i64 1) (.int .i64 4)
        have hbel := set9_below HB.out (Nat.le_refl w.heap.size) (.int .i64 0) (.int .i64 0) (.int .i64 0) (.slice none 0 0) (.slice none 0 0) (.slice none 0 0) (.int .i64 0) (.int .i64 1) (.int .i64 4)
        clear c0 c1 c2 c3 c4 c5 c6 c7 c8 fr HN HB
        revert hall hbel
        generalize (((((((((v.setCell ⟨w.heap.size, 0, none⟩ (.int .i64 0)).setCell ⟨w.heap.size, 1, none⟩ (.int .i64 0)).setCell ⟨w.heap.size, 2, none⟩ (.int .i64 0)).setCell ⟨w.heap.size, 3, none⟩ (.slice none 0 0)).setCell ⟨w.heap.size, 4, none⟩ (.slice none 0 0)).setCell ⟨w.heap.size, 5, none⟩ (.slice none 0 0)).setCell ⟨w.heap.size, 6, none⟩ (.int .i64 0)).setCell ⟨w.heap.size, 7, none⟩ (.int .i64 1)).setCell ⟨w.heap.size, 8, none⟩ (.int .i64 4)) = W'
        intro hall hbel
        have k0 := hall.c0
        have k1 := hall.c1
        have k2 := hall.c2
        have k3 := hall.c3
        have k4 := hall.c4
        have k5 := hall.c5
        have k6 := hall.c6
        have k7 := hall.c7
        have k8 := hall.c8
        refine bodyPost_ret (v := fv 1 4) (by simp [results, Tryd.results31, go_sem, k0, k1, k2, k3, k4, k5, k6, k7, k8]) rfl (FrP.bad hbel HD.out (by decide))
      · have hq : (((4 : Int)) == (len : Int)) = false := by simp; omega
        have hi : (4 : Int) < len := by omega
        have hb8 := HB8.out 4
        have cz := HCE.out 4 (by omega)
        obtain ⟨z, hz⟩ : ∃ z, xs.getD 4 0 = z := ⟨_, rfl⟩
        rw [hz] at cz hb8
        have HZ := Lib.hid hz
        have HLT := Lib.hid (show 4 < xs.length by rw [HLEN.out]; omega)
        have wz : IntKind.i64.wrap z = z := by rw [IntKind.wrap_i64]; omega
        clear hz hlk
        by_cases hok : z = 1
        · have HN := Lib.hid (HU.out.n4 HLT.out (HZ.out.trans hok))
          have hzz : (z != 1) = false := by simpa using hok
          clear hok
          go_wp2
          go_round
          case rel => exact .inr (.inl ⟨rfl, HN.out⟩)
          case measure => simp [intOf]
        · have HD := Lib.hid (HU.out.bad4 HLT.out (by rw [HZ.out]; exact hok))
          have hzz : (z != 1) = true := by simpa using hok
          clear hok
          go_wp2_with fail
          refine (rfault_any _ _ _).mono ?_
          rintro e v ⟨rfl, hb⟩
          have HN := Lib.hid (HNB.out.keep hb)
          have HB := Lib.hid ((Below.box w (.cells #[.int .i64 0, .int .i64 0, .int .i64 0, .slice none 0 0, .slice none 0 0, .slice none 0 0, .int .i64 0, .int .i64 0, .int .i64 0] 62)).trans (hb.mono (by simp)))
          have c0 := HN.out.c0
          have c1 := HN.out.c1
          have c2 := HN.out.c2
          have c3 := HN.out.c3
          have c4 := HN.out.c4
          have c5 := HN.out.c5
          have c6 := HN.out.c6
          have c7 := HN.out.c7
          have c8 := HN.out.c8
          have fr := HN.out.fr
          clear hb
          go_wp2
          have hall := NB.all HN.out (.int .i64 0) (.int .i64 0) (.int .i64 0) (.slice none 0 0) (.slice none 0 0) (.slice none 0 0) (.int .i64 0) (.int .i64 2) (.int .i64 4)
          have hbel := set9_below HB.out (Nat.le_refl w.heap.size) (.int .i64 0) (.int .i64 0) (.int .i64 0) (.slice none 0 0) (.slice none 0 0) (.slice none 0 0) (.int .i64 0) (.int .i64 2) (.int .i64 4)
          clear c0 c1 c2 c3 c4 c5 c6 c7 c8 fr HN HB
          revert hall hbel
          generalize (((((((((v.setCell ⟨w.heap.size, 0, none⟩ (.int .i64 0)).setCell ⟨w.heap.size, 1, none⟩ (.int .i64 0)).setCell ⟨w.heap.size, 2, none⟩ (.int .i64 0)).setCell ⟨w.heap.size, 3, none⟩ (.slice none 0 0)).setCell ⟨w.heap.size, 4, none⟩ (.slice none 0 0)).setCell ⟨w.heap.size, 5, none⟩ (.slice none 0 0)).setCell ⟨w.heap.size, 6, none⟩ (.int .i64 0)).setCell ⟨w.heap.size, 7, none⟩ (.int .i64 2)).setCell ⟨w.heap.size, 8, none⟩ (.int .i64 4)) = W'
          intro hall hbel
          have k0 := hall.c0
          have k1 := hall.c1
          have k2 := hall.c2
          have k3 := hall.c3
          have k4 := hall.c4
          have k5 := hall.c5
          have k6 := hall.c6
          have k7 := hall.c7
          have k8 := hall.c8
          refine bodyPost_ret (v := fv 2 4) (by simp [results, Tryd.results31, go_sem, k0, k1, k2, k3, k4, k5, k6, k7, k8]) rfl (FrP.bad hbel HD.out (by decide))
    · have HU := Lib.hid hu
      have hkl : 5 ≤ len := by have := hu.le; rw [HLEN.out] at this; exact this
      clear hu
      by_cases hlk : len = 5
      · have hq : (((5 : Int)) == (len : Int)) = true := by simp [hlk]
        have HD := Lib.hid (HU.out.sh5 HB8.out (by rw [HLEN.out]; exact hlk))
        clear hlk
        go_wp2_with fail
        refine (rfault_any _ _ _).mono ?_
        rintro e v ⟨rfl, hb⟩
        have HN := Lib.hid (HNB.out.keep hb)
        have HB := Lib.hid ((Below.box w (.cells #[.int .i64 0, .int .i64 0, .int .i64 0, .slice none 0 0, .slice none 0 0, .slice none 0 0, .int .i64 0, .int .i64 0, .int .i64 0] 62)).trans (hb.mono (by simp)))
        have c0 := HN.out.c0
        have c1 := HN.out.c1
        have c2 := HN.out.c2
        have c3 := HN.out.c3
        have c4 := HN.out.c4
        have c5 := HN.out.c5
        have c6 := HN.out.c6
        have c7 := HN.out.c7
        have c8 := HN.out.c8
        have fr := HN.out.fr
        clear hb
        go_wp2
        have hall := NB.all HN.out (.int .i64 0) (.int .i64 0) (.int .i64 0) (.slice none 0 0) (.slice none 0 0) (.slice none 0 0) (.int .i64 0) (.int .i64 1) (.int .i64 5)
        have hbel := set9_below HB.out (Nat.le_refl w.heap.size) (.int .i64 0) (.int .i64 0) (.int .i64 0) (.slice none 0 0) (.slice none 0 0) (.slice none 0 0) (.int .i64 0) (.int .i64 1) (.int .i64 5)
        clear c0 c1 c2 c3 c4 c5 c6 c7 c8 fr HN HB
        revert hall hbel
        generalize (((((((((v.setCell ⟨w.heap.size, 0, none⟩ (.int .i64 0)).setCell ⟨w.heap.size, 1, none⟩ (.int .i64 0)).setCell ⟨w.heap.size, 2, none⟩ (.int .i64 0)).setCell ⟨w.heap.size, 3, none⟩ (.slice none 0 0)).setCell ⟨w.heap.size, 4, none⟩ (.slice none 0 0)).setCell ⟨w.heap.size, 5, none⟩ (.slice none 0 0)).setCell ⟨w.heap.size, 6, none⟩ (.int .i64 0)).setCell ⟨w.heap.size, 7, none⟩ (.int .i64 1)).setCell ⟨w.heap.size, 8, none⟩ (.int .i64 5)) = W'
        intro hall hbel
        have k0 := hall.c0
        have k1 := hall.c1
        have k2 := hall.c2
        have k3 := hall.c3
        have k4 := hall.c4
        have k5 := hall.c5
        have k6 := hall.c6
        have k7 := hall.c7
        have k8 := hall.c8
        refine bodyPost_ret (v := fv 1 5) (by simp [results, Tryd.results31, go_sem, k0, k1, k2, k3, k4, k5, k6, k7, k8]) rfl (FrP.bad hbel HD.out (by decide))
      · have hq : (((5 : Int)) == (len : Int)) = false := by simp; omega
        have hi : (5 : Int) < len := by omega
        have hb8 := HB8.out 5
        have cz := HCE.out 5 (by omega)
        obtain ⟨z, hz⟩ : ∃ z, xs.getD 5 0 = z := ⟨_, rfl⟩
        rw [hz] at cz hb8
        have HZ := Lib.hid hz
        have HLT := Lib.hid (show 5 < xs.length by rw [HLEN.out]; omega)
        have wz : IntKind.i64.wrap z = z := by rw [IntKind.wrap_i64]; omega
        clear hz hlk
        by_cases hok : z ≤ 64
        · have HN := Lib.hid (HU.out.n5 HLT.out (by rw [HZ.out]; exact hok))
          go_wp2
          go_round
          case rel => exact .inr (.inr (.inl ⟨rfl, HN.out⟩))
          case measure => simp [intOf]
        · have HD := Lib.hid (HU.out.bad5 HB8.out HLT.out (by rw [HZ.out]; omega))
          have hok' : 64 < z := by omega
          clear hok
          go_wp2_with fail
          refine (rfault_any _ _ _).mono ?_
          rintro e v ⟨rfl, hb⟩
          have HN := Lib.hid (HNB.out.keep hb)
          have HB := Lib.hid ((Below.box w (.cells #[.int .i64 0, .int .i64 0, .int .i64 0, .slice none 0 0, .slice none 0 0, .slice none 0 0, .int .i64 0, .int .i64 0, .int .i64 0] 62)).trans (hb.mono (by simp)))
          have c0 := HN.out.c0
          have c1 := HN.out.c1
          have c2 := HN.out.c2
          have c3 := HN.out.c3
          have c4 := HN.out.c4
          have c5 := HN.out.c5
          have c6 := HN.out.c6
          have c7 := HN.out.c7
          have c8 := HN.out.c8
          have fr := HN.out.fr
          clear hb
          go_wp2
          have hall := NB.all HN.out (.int .i64 0) (.int .i64 0) (.int .i64 0) (.slice none 0 0) (.slice none 0 0) (.slice none 0 0) (.int .i64 0) (.int .i64 3) (.int .i64 5)
          have hbel := set9_below HB.out (Nat.le_refl w.heap.size) (.int .i64 0) (.int .i64 0) (.int .i64 0) (.slice none 0 0) (.slice none 0 0) (.slice none 0 0) (.int .i64 0) (.int .i64 3) (.int .i64 5)
          clear c0 c1 c2 c3 c4 c5 c6 c7 c8 fr HN HB
          revert hall hbel
          generalize (((((((((v.setCell ⟨w.heap.size, 0, none⟩ (.int .i64 0)).setCell ⟨w.heap.size, 1, none⟩ (.int .i64 0)).setCell ⟨w.heap.size, 2, none⟩ (.int .i64 0)).setCell ⟨w.heap.size, 3, none⟩ (.slice none 0 0)).setCell ⟨w.heap.size, 4, none⟩ (.slice none 0 0)).setCell ⟨w.heap.size, 5, none⟩ (.slice none 0 0)).setCell ⟨w.heap.size, 6, none⟩ (.int .i64 0)).setCell ⟨w.heap.size, 7, none⟩ (.int .i64 3)).setCell ⟨w.heap.size, 8, none⟩ (.int .i64 5)) = W'
          intro hall hbel
          have k0 := hall.c0
          have k1 := hall.c1
          have k2 := hall.c2
          have k3 := hall.c3
          have k4 := hall.c4
          have k5 := hall.c5
          have k6 := hall.c6
          have k7 := hall.c7
          have k8 := hall.c8
          refine bodyPost_ret (v := fv 3 5) (by simp [results, Tryd.results31, go_sem, k0, k1, k2, k3, k4, k5, k6, k7, k8]) rfl (FrP.bad hbel HD.out (by decide))
    · have HU := Lib.hid hu
      have hkl : 6 ≤ len := by have := hu.le; rw [HLEN.out] at this; exact this
      clear hu
      by_cases hlk : len = 6
      · have hq : (((6 : Int)) == (len : Int)) = true := by simp [hlk]
        have HD := Lib.hid (HU.out.sh6 HB8.out (by rw [HLEN.out]; exact hlk))
        clear hlk
        go_wp2_with fail
        refine (rfault_any _ _ _).mono ?_
        rintro e v ⟨rfl, hb⟩
        have HN := Lib.hid (HNB.out.keep hb)
        have HB := Lib.hid ((Below.box w (.cells #[.int .i64 0, .int .i64 0, .int .i64 0, .slice none 0 0, .slice none 0 0, .slice none 0 0, .int .i64 0, .int .i64 0, .int .i64 0] 62)).trans (hb.mono (by simp)))
        have c0 := HN.out.c0
        have c1 := HN.out.c1
        have c2 := HN.out.c2
        have c3 := HN.out.c3
        have c4 := HN.out.c4
        have c5 := HN.out.c5
        have c6 := HN.out.c6
        have c7 := HN.out.c7
        have c8 := HN.out.c8
        have fr := HN.out.fr
        clear hb
        go_wp2
        have hall := NB.all HN.out (.int .i64 0) (.int .i64 0) (.int .i64 0) (.slice none 0 0) (.slice none 0 0) (.slice none 0 0) (.int .i64 0) (.int .i64 1) (.int .i64 6)
        have hbel := set9_below HB.out (Nat.le_refl w.heap.size) (.int .i64 0) (.int .i64 0) (.int .i64 0) (.slice none 0 0) (.slice none 0 0) (.slice none 0 0) (.int .i64 0) (.int .i64 1) (.int .i64 6)
        clear c0 c1 c2 c3 c4 c5 c6 c7 c8 fr HN HB
        revert hall hbel
        generalize (((((((((v.setCell ⟨w.heap.size, 0, none⟩ (.int .i64 0)).setCell ⟨w.heap.size, 1, none⟩ (.int .i64 0)).setCell ⟨w.heap.size, 2, none⟩ (.int .i64 0)).setCell ⟨w.heap.size, 3, none⟩ (.slice none 0 0)).setCell ⟨w.heap.size, 4, none⟩ (.slice none 0 0)).setCell ⟨w.heap.size, 5, none⟩ (.slice none 0 0)).setCell ⟨w.heap.size, 6, none⟩ (.int .i64 0)).setCell ⟨w.heap.size, 7, none⟩ (.int .i64 1)).setCell ⟨w.heap.size, 8, none⟩ (.int .i64 6)) = W'
        intro hall hbel
        have k0 := hall.c0
        have k1 := hall.c1
        have k2 := hall.c2
        have k3 := hall.c3
        have k4 := hall.c4
        have k5 := hall.c5
        have k6 := hall.c6
        have k7 := hall.c7
        have k8 := hall.c8
        refine bodyPost_ret (v := fv 1 6) (by simp [results, Tryd.results31, go_sem, k0, k1, k2, k3, k4, k5, k6, k7, k8]) rfl (FrP.bad hbel HD.out (by decide))
      · have hq : (((6 : Int)) == (len : Int)) = false := by simp; omega
        have hi : (6 : Int) < len := by omega
        have hb8 := HB8.out 6
        have cz := HCE.out 6 (by omega)
        obtain ⟨z, hz⟩ : ∃ z, xs.getD 6 0 = z := ⟨_, rfl⟩
        rw [hz] at cz hb8
        have HZ := Lib.hid hz
        have HLT := Lib.hid (show 6 < xs.length by rw [HLEN.out]; omega)
        have wz : IntKind.i64.wrap z = z := by rw [IntKind.wrap_i64]; omega
        clear hz hlk
        by_cases hok : z ≤ 16
        · have HN := Lib.hid (HU.out.n6 HLT.out (by rw [HZ.out]; exact hok))
          go_wp2
          go_round
          case rel => exact .inr (.inr (.inr (.inl ⟨rfl, HN.out⟩)))
          case measure => simp [intOf]
        · have HD := Lib.hid (HU.out.bad6 HB8.out HLT.out (by rw [HZ.out]; omega))
          have hok' : 16 < z := by omega
          clear hok
          go_wp2_with fail
          refine (rfault_any _ _ _).mono ?_
          rintro e v ⟨rfl, hb⟩
          have HN := Lib.hid (HNB.out.keep hb)
          have HB := Lib.hid ((Below.box w (.cells #[.int .i64 0, .int .i64 0, .int .i64 0, .slice none 0 0, .slice none 0 0, .slice none 0 0, .int .i64 0, .int .i64 0, .int .i64 0] 62)).trans (hb.mono (by simp)))
          have c0 := HN.out.c0
          have c1 := HN.out.c1
          have c2 := HN.out.c2
          have c3 := HN.out.c3
          have c4 := HN.out.c4
          have c5 := HN.out.c5
          have c6 := HN.out.c6
          have c7 := HN.out.c7
          have c8 := HN.out.c8
          have fr := HN.out.fr
          clear hb
          go_wp2
          have hall := NB.all HN.out (.int .i64 0) (.int .i64 0) (.int .i64 0) (.slice none 0 0) (.slice none 0 0) (.slice none 0 0) (.int .i64 0) (.int .i64 3) (.int .i64 6)
          have hbel := set9_below HB.out (Nat.le_refl w.heap.size) (.int .i64 0) (.int .i64 0) (.int .i64 0) (.slice none 0 0) (.slice none 0 0) (.slice none 0 0) (.int .i64 0) (.int .i64 3) (.int .i64 6)
          clear c0 c1 c2 c3 c4 c5 c6 c7 c8 fr HN HB
          revert hall hbel
          generalize (((((((((v.setCell ⟨w.heap.size, 0, none⟩ (.int .i64 0)).setCell ⟨w.heap.size, 1, none⟩ (.int .i64 0)).setCell ⟨w.heap.size, 2, none⟩ (.int .i64 0)).setCell ⟨w.heap.size, 3, none⟩ (.slice none 0 0)).setCell ⟨w.heap.size, 4, none⟩ (.slice none 0 0)).setCell ⟨w.heap.size, 5, none⟩ (.slice none 0 0)).setCell ⟨w.heap.size, 6, none⟩ (.int .i64 0)).setCell ⟨w.heap.size, 7, none⟩ (.int .i64 3)).setCell ⟨w.heap.size, 8, none⟩ (.int .i64 6)) = W'
          intro hall hbel
          have k0 := hall.c0
          have k1 := hall.c1
          have k2 := hall.c2
          have k3 := hall.c3
          have k4 := hall.c4
          have k5 := hall.c5
          have k6 := hall.c6
          have k7 := hall.c7
          have k8 := hall.c8
          refine bodyPost_ret (v := fv 3 6) (by simp [results, Tryd.results31, go_sem, k0, k1, k2, k3, k4, k5, k6, k7, k8]) rfl (FrP.bad hbel HD.out (by decide))
    · have HU := Lib.hid hu
      have hkl : 7 ≤ len := by have := hu.le; rw [HLEN.out] at this; exact this
      clear hu
      by_cases hlk : len = 7
      · have hq : (((7 : Int)) == (len : Int)) = true := by simp [hlk]
        have HD := Lib.hid (HU.out.sh7 HB8.out (by rw [HLEN.out]; exact hlk))
        clear hlk
        go_wp2_with fail
        refine (rfault_any _ _ _).mono ?_
        rintro e v ⟨rfl, hb⟩
        have HN := Lib.hid (HNB.out.keep hb)
        have HB := Lib.hid ((Below.box w (.cells #[.int .i64 0, .int .i64 0, .int .i64 0, .slice none 0 0, .slice none 0 0, .slice none 0 0, .int .i64 0, .int .i64 0, .int .i64 0] 62)).trans (hb.mono (by simp)))
        have c0 := HN.out.c0
        have c1 := HN.out.c1
        have c2 := HN.out.c2
        have c3 := HN.out.c3
        have c4 := HN.out.c4
        have c5 := HN.out.c5
        have c6 := HN.out.c6
        have c7 := HN.out.c7
        have c8 := HN.out.c8
        have fr := HN.out.fr
        clear hb
        go_wp2
        have hall := NB.all HN.out (.int .i64 0) (.int .i64 0) (.int .i64 0) (.slice none 0 0) (.slice none 0 0) (.slice none 0 0) (.int .i64 0) (.int .i64 1) (.int .i64 7)
        have hbel := set9_below HB.out (Nat.le_refl w.heap.size) (.int .i64 0) (.int .i64 0) (.int .i64 0) (.slice none 0 0) (.slice none 0 0) (.slice none 0 0) (.int .i64 0) (.int .i64 1) (.int .i64 7)
        clear c0 c1 c2 c3 c4 c5 c6 c7 c8 fr HN HB
        revert hall hbel
        generalize (((((((((v.setCell ⟨w.heap.size, 0, none⟩ (.int .i64 0)).setCell ⟨w.heap.size, 1, none⟩ (.int .i64 0)).setCell ⟨w.heap.size, 2, none⟩ (.int .i64 0)).setCell ⟨w.heap.size, 3, none⟩ (.slice none 0 0)).setCell ⟨w.heap.size, 4, none⟩ (.slice none 0 0)).setCell ⟨w.heap.size, 5, none⟩ (.slice none 0 0)).setCell ⟨w.heap.size, 6, none⟩ (.int .i64 0)).setCell ⟨w.heap.size, 7, none⟩ (.int .i64 1)).setCell ⟨w.heap.size, 8, none⟩ (.int .i64 7)) = W'
        intro hall hbel
        have k0 := hall.c0
        have k1 := hall.c1
        have k2 := hall.c2
        have k3 := hall.c3
        have k4 := hall.c4
        have k5 := hall.c5
        have k6 := hall.c6
        have k7 := hall.c7
        have k8 := hall.c8
        refine bodyPost_ret (v := fv 1 7) (by simp [results, Tryd.results31, go_sem, k0, k1, k2, k3, k4, k5, k6, k7, k8]) rfl (FrP.bad hbel HD.out (by decide))
      · have hq : (((7 : Int)) == (len : Int)) = false := by simp; omega
        have hi : (7 : Int) < len := by omega
        have hb8 := HB8.out 7
        have cz := HCE.out 7 (by omega)
        obtain ⟨z, hz⟩ : ∃ z, xs.getD 7 0 = z := ⟨_, rfl⟩
        rw [hz] at cz hb8
        have HZ := Lib.hid hz
        have HLT := Lib.hid (show 7 < xs.length by rw [HLEN.out]; omega)
        have wz : IntKind.i64.wrap z = z := by rw [IntKind.wrap_i64]; omega
        clear hz hlk
        by_cases hok : z ≤ 16
        · have HN := Lib.hid (HU.out.n7 HLT.out (by rw [HZ.out]; exact hok))
          go_wp2
          go_round
          case rel => exact .inr (.inr (.inr (.inr (.inl ⟨rfl, HN.out⟩))))
          case measure => simp [intOf]
        · have HD := Lib.hid (HU.out.bad7 HB8.out HLT.out (by rw [HZ.out]; omega))
          have hok' : 16 < z := by omega
          clear hok
          go_wp2_with fail
          refine (rfault_any _ _ _).mono ?_
          rintro e v ⟨rfl, hb⟩
          have HN := Lib.hid (HNB.out.keep hb)
          have HB := Lib.hid ((Below.box w (.cells #[.int .i64 0, .int .i64 0, .int .i64 0, .slice none 0 0, .slice none 0 0, .slice none 0 0, .int .i64 0, .int .i64 0, .int .i64 0] 62)).trans (hb.mono (by simp)))
          have c0 := HN.out.c0
          have c1 := HN.out.c1
          have c2 := HN.out.c2
          have c3 := HN.out.c3
          have c4 := HN.out.c4
          have c5 := HN.out.c5
          have c6 := HN.out.c6
          have c7 := HN.out.c7
          have c8 := HN.out.c8
          have fr := HN.out.fr
          clear hb
          go_wp2
          have hall := NB.all HN.out (.int .i64 0) (.int .i64 0) (.int .i64 0) (.slice none 0 0) (.slice none 0 0) (.slice none 0 0) (.int .i64 0) (.int .i64 3) (.int .i64 7)
          have hbel := set9_below HB.out (Nat.le_refl w.heap.size) (.int .i64 0) (.int .i64 0) (.int .i64 0) (.slice none 0 0) (.slice none 0 0) (.slice none 0 0) (.int .i64 0) (.int .i64 3) (.int .i64 7)
          clear c0 c1 c2 c3 c4 c5 c6 c7 c8 fr HN HB
          revert hall hbel
          generalize (((((((((v.setCell ⟨w.heap.size, 0, none⟩ (.int .i64 0)).setCell ⟨w.heap.size, 1, none⟩ (.int .i64 0)).setCell ⟨w.heap.size, 2, none⟩ (.int .i64 0)).setCell ⟨w.heap.size, 3, none⟩ (.slice none 0 0)).setCell ⟨w.heap.size, 4, none⟩ (.slice none 0 0)).setCell ⟨w.heap.size, 5, none⟩ (.slice none 0 0)).setCell ⟨w.heap.size, 6, none⟩ (.int .i64 0)).setCell ⟨w.heap.size, 7, none⟩ (.int .i64 3)).setCell ⟨w.heap.size, 8, none⟩ (.int .i64 7)) = W'
          intro hall hbel
          have k0 := hall.c0
          have k1 := hall.c1
          have k2 := hall.c2
          have k3 := hall.c3
          have k4 := hall.c4
          have k5 := hall.c5
          have k6 := hall.c6
          have k7 := hall.c7
          have k8 := hall.c8
          refine bodyPost_ret (v := fv 3 7) (by simp [results, Tryd.results31, go_sem, k0, k1, k2, k3, k4, k5, k6, k7, k8]) rfl (FrP.bad hbel HD.out (by decide))
    · have HU := Lib.hid hu
      have hkl : 8 ≤ len := by have := hu.le; rw [HLEN.out] at this; exact this
      clear hu
      by_cases hlk : len = 8
      · have hq : (((8 : Int)) == (len : Int)) = true := by simp [hlk]
        have HD := Lib.hid (HU.out.sh8 HB8.out (by rw [HLEN.out]; exact hlk))
        clear hlk
        go_wp2_with fail
        refine (rfault_any _ _ _).mono ?_
        rintro e v ⟨rfl, hb⟩
        have HN := Lib.hid (HNB.out.keep hb)
        have HB := Lib.hid ((Below.box w (.cells #[.int .i64 0, .int .i64 0, .int .i64 0, .slice none 0 0, .slice none 0 0, .slice none 0 0, .int .i64 0, .int .i64 0, .int .i64 0] 62)).trans (hb.mono (by simp)))
        have c0 := HN.out.c0
        have c1 := HN.out.c1
        have c2 := HN.out.c2
        have c3 := HN.out.c3
        have c4 := HN.out.c4
        have c5 := HN.out.c5
        have c6 := HN.out.c6
        have c7 := HN.out.c7
        have c8 := HN.out.c8
        have fr := HN.out.fr
        clear hb
        go_wp2
        have hall := NB.all HN.out (.int .i64 0) (.int .i64 0) (.int .i64 0) (.slice none 0 0) (.slice none 0 0) (.slice none 0 0) (.int .i64 0) (.int .i64 1) (.int .i64 8)
        have hbel := set9_below HB.out (Nat.le_refl w.heap.size) (.int .i64 0) (.int .i64 0) (.int .i64 0) (.slice none 0 0) (.slice none 0 0) (.slice none 0 0) (.int .i64 0) (.int .i64 1) (.int .i64 8)
        clear c0 c1 c2 c3 c4 c5 c6 c7 c8 fr HN HB
        revert hall hbel
        generalize (((((((((v.setCell ⟨w.heap.size, 0, none⟩ (.int .i64 0)).setCell ⟨w.heap.size, 1, none⟩ (.int .i64 0)).setCell ⟨w.heap.size, 2, none⟩ (.int .i64 0)).setCell ⟨w.heap.size, 3, none⟩ (.slice none 0 0)).setCell ⟨w.heap.size, 4, none⟩ (.slice none 0 0)).setCell ⟨w.heap.size, 5, none⟩ (.slice none 0 0)).setCell ⟨w.heap.size, 6, none⟩ (.int .i64 0)).setCell ⟨w.heap.size, 7, none⟩ (.int .i64 1)).setCell ⟨w.heap.size, 8, none⟩ (.int .i64 8)) = W'
        intro hall hbel
        have k0 := hall.c0
        have k1 := hall.c1
        have k2 := hall.c2
        have k3 := hall.c3
        have k4 := hall.c4
        have k5 := hall.c5
        have k6 := hall.c6
        have k7 := hall.c7
        have k8 := hall.c8
        refine bodyPost_ret (v := fv 1 8) (by simp [results, Tryd.results31, go_sem, k0, k1, k2, k3, k4, k5, k6, k7, k8]) rfl (FrP.bad hbel HD.out (by decide))
      · have hq : (((8 : Int)) == (len : Int)) = false := by simp; omega
        have hi : (8 : Int) < len := by omega
        have hb8 := HB8.out 8
        have cz := HCE.out 8 (by omega)
        obtain ⟨z, hz⟩ : ∃ z, xs.getD 8 0 = z := ⟨_, rfl⟩
        rw [hz] at cz hb8
        have HZ := Lib.hid hz
        have HLT := Lib.hid (show 8 < xs.length by rw [HLEN.out]; omega)
        have wz : IntKind.i64.wrap z = z := by rw [IntKind.wrap_i64]; omega
        clear hz hlk
        have cy := HCE.out 5 (by omega)
        have hy8 := HB8.out 5
        obtain ⟨y, hy⟩ : ∃ y, xs.getD 5 0 = y := ⟨_, rfl⟩
        rw [hy] at cy hy8
        have HY := Lib.hid hy
        have wy : IntKind.i64.wrap y = y := by rw [IntKind.wrap_i64]; omega
        have hi5 : (5 : Int) < len := by omega
        clear hy
        by_cases hok : z ≤ y
        · have HN := Lib.hid (HU.out.n8 HLT.out (by rw [HZ.out, HY.out]; exact hok))
          go_wp2
          go_round
          case rel => exact .inr (.inr (.inr (.inr (.inr (⟨rfl, HN.out⟩)))))
          case measure => simp [intOf]
        · have HD := Lib.hid (HU.out.bad8 HB8.out HLT.out (by rw [HZ.out, HY.out]; omega))
          have hok' : y < z := by omega
          clear hok
          go_wp2_with fail
          refine (rfault_any _ _ _).mono ?_
          rintro e v ⟨rfl, hb⟩
          have HN := Lib.hid (HNB.out.keep hb)
          have HB := Lib.hid ((Below.box w (.cells #[.int .i64 0, .int .i64 0, .int .i64 0, .slice none 0 0, .slice none 0 0, .slice none 0 0, .int .i64 0, .int .i64 0, .int .i64 0] 62)).trans (hb.mono (by simp)))
          have c0 := HN.out.c0
          have c1 := HN.out.c1
          have c2 := HN.out.c2
          have c3 := HN.out.c3
          have c4 := HN.out.c4
          have c5 := HN.out.c5
          have c6 := HN.out.c6
          have c7 := HN.out.c7
          have c8 := HN.out.c8
          have fr := HN.out.fr
          clear hb
          go_wp2
          have hall := NB.all HN.out (.int .i64 0) (.int .i64 0) (.int .i64 0) (.slice none 0 0) (.slice none 0 0) (.slice none 0 0) (.int .i64 0) (.int .i64 3) (.int .i64 8)
          have hbel := set9_below HB.out (Nat.le_refl w.heap.size) (.int .i64 0) (.int .i64 0) (.int .i64 0) (.slice none 0 0) (.slice none 0 0) (.slice none 0 0) (.int .i64 0) (.int .i64 3) (.int .i64 8)
          clear c0 c1 c2 c3 c4 c5 c6 c7 c8 fr HN HB
          revert hall hbel
          generalize (((((((((v.setCell ⟨w.heap.size, 0, none⟩ (.int .i64 0)).setCell ⟨w.heap.size, 1, none⟩ (.int .i64 0)).setCell ⟨w.heap.size, 2, none⟩ (.int .i64 0)).setCell ⟨w.heap.size, 3, none⟩ (.slice none 0 0)).setCell ⟨w.heap.size, 4, none⟩ (.slice none 0 0)).setCell ⟨w.heap.size, 5, none⟩ (.slice none 0 0)).setCell ⟨w.heap.size, 6, none⟩ (.int .i64 0)).setCell ⟨w.heap.size, 7, none⟩ (.int .i64 3)).setCell ⟨w.heap.size, 8, none⟩ (.int .i64 8)) = W'
          intro hall hbel
          have k0 := hall.c0
          have k1 := hall.c1
          have k2 := hall.c2
          have k3 := hall.c3
          have k4 := hall.c4
          have k5 := hall.c5
          have k6 := hall.c6
          have k7 := hall.c7
          have k8 := hall.c8
          refine bodyPost_ret (v := fv 3 8) (by simp [results, Tryd.results31, go_sem, k0, k1, k2, k3, k4, k5, k6, k7, k8]) rfl (FrP.bad hbel HD.out (by decide))
    · have HU := Lib.hid hu
      have hkl : 9 ≤ len := by have := hu.le; rw [HLEN.out] at this; exact this
      have HT := Lib.hid (hu.e HB8.out (by omega))
      clear hu
      have hb8 := HB8.out 8
      have cz := HCE.out 8 (by omega)
      obtain ⟨z, hz⟩ : ∃ z, xs.getD 8 0 = z := ⟨_, rfl⟩
      rw [hz] at cz hb8
      obtain ⟨n, rfl⟩ : ∃ n : Nat, z = n := ⟨z.toNat, by omega⟩
      have hnd : Im.nd xs = n := by unfold Im.nd; rw [Im.num1, hz]; rfl
      have HND := Lib.hid hnd
      have wz : IntKind.i64.wrap (n : Int) = n := by rw [IntKind.wrap_i64]; omega
      have hi8 : (8 : Int) < len := by omega
      clear hz hnd
      by_cases hs : len < 9 + n
      · have HD := Lib.hid (show Im.dE xs = (1, (len : Int)) by rw [HT.out]; unfold Im.t9; rw [HND.out, HLEN.out, if_pos hs])
        have hs' : (len : Int) < 9 + n := by omega
        go_wp2_with fail
        refine (rfault_any _ _ _).mono ?_
        rintro e v ⟨rfl, hb⟩
        have HN := Lib.hid (HNB.out.keep hb)
        have HB := Lib.hid ((Below.box w (.cells #[.int .i64 0, .int .i64 0, .int .i64 0, .slice none 0 0, .slice none 0 0, .slice none 0 0, .int .i64 0, .int .i64 0, .int .i64 0] 62)).trans (hb.mono (by simp)))
        have c0 := HN.out.c0
        have c1 := HN.out.c1
        have c2 := HN.out.c2
        have c3 := HN.out.c3
        have c4 := HN.out.c4
        have c5 := HN.out.c5
        have c6 := HN.out.c6
        have c7 := HN.out.c7
        have c8 := HN.out.c8
        have fr := HN.out.fr
        clear hb
        go_wp2
        have hall := NB.all HN.out (.int .i64 0) (.int .i64 0) (.int .i64 0) (.slice none 0 0) (.slice none 0 0) (.slice none 0 0) (.int .i64 0) (.int .i64 1) (.int .i64 len)
        have hbel := set9_below HB.out (Nat.le_refl w.heap.size) (.int .i64 0) (.int .i64 0) (.int .i64 0) (.slice none 0 0) (.slice none 0 0) (.slice none 0 0) (.int .i64 0) (.int .i64 1) (.int .i64 len)
        clear c0 c1 c2 c3 c4 c5 c6 c7 c8 fr HN HB
        revert hall hbel
        generalize (((((((((v.setCell ⟨w.heap.size, 0, none⟩ (.int .i64 0)).setCell ⟨w.heap.size, 1, none⟩ (.int .i64 0)).setCell ⟨w.heap.size, 2, none⟩ (.int .i64 0)).setCell ⟨w.heap.size, 3, none⟩ (.slice none 0 0)).setCell ⟨w.heap.size, 4, none⟩ (.slice none 0 0)).setCell ⟨w.heap.size, 5, none⟩ (.slice none 0 0)).setCell ⟨w.heap.size, 6, none⟩ (.int .i64 0)).setCell ⟨w.heap.size, 7, none⟩ (.int .i64 1)).setCell ⟨w.heap.size, 8, none⟩ (.int .i64 len)) = W'
        intro hall hbel
        have k0 := hall.c0
        have k1 := hall.c1
        have k2 := hall.c2
        have k3 := hall.c3
        have k4 := hall.c4
        have k5 := hall.c5
        have k6 := hall.c6
        have k7 := hall.c7
        have k8 := hall.c8
        refine bodyPost_ret (v := fv 1 len) (by simp [results, Tryd.results31, go_sem, k0, k1, k2, k3, k4, k5, k6, k7, k8]) rfl (FrP.bad hbel HD.out (by decide))
      · have HD := Lib.hid (show Im.dE xs = Im.t10 xs by rw [HT.out]; unfold Im.t9; rw [HND.out, HLEN.out, if_neg hs])
        have hs' : ¬ (len : Int) < 9 + n := by omega
        have b5 := HB8.out 5
        have b6 := HB8.out 6
        have b7 := HB8.out 7
        have k5 := HCE.out 5 (by omega)
        have k6 := HCE.out 6 (by omega)
        have k7 := HCE.out 7 (by omega)
        have hnn := Lib.hid (show Im.num xs 5 1 = xs.getD 5 0 ∧ Im.num xs 6 1 = xs.getD 6 0 ∧ Im.num xs 7 1 = xs.getD 7 0 from ⟨rfl, rfl, rfl⟩)
        obtain ⟨z5, hz5⟩ : ∃ y, xs.getD 5 0 = y := ⟨_, rfl⟩
        obtain ⟨z6, hz6⟩ : ∃ y, xs.getD 6 0 = y := ⟨_, rfl⟩
        obtain ⟨z7, hz7⟩ : ∃ y, xs.getD 7 0 = y := ⟨_, rfl⟩
        rw [hz5] at b5 k5 hnn
        rw [hz6] at b6 k6 hnn
        rw [hz7] at b7 k7 hnn
        clear hz5 hz6 hz7
        have w5 : IntKind.i64.wrap z5 = z5 := by rw [IntKind.wrap_i64]; omega
        have w6 : IntKind.i64.wrap z6 = z6 := by rw [IntKind.wrap_i64]; omega
        have w7 : IntKind.i64.wrap z7 = z7 := by rw [IntKind.wrap_i64]; omega
        go_upto_region 18 with fail
        have hS0 : (w.alloc (.cells #[.int .i64 0, .int .i64 0, .int .i64 0, .slice none 0 0, .slice none 0 0, .slice none 0 0, .int .i64 0, .int .i64 0, .int .i64 0] 62)).cell? ⟨b, o + 5, none⟩ = some (.int .u8 z5) ∧ (w.alloc (.cells #[.int .i64 0, .int .i64 0, .int .i64 0, .slice none 0 0, .slice none 0 0, .slice none 0 0, .int .i64 0, .int .i64 0, .int .i64 0] 62)).cell? ⟨b, o + 6, none⟩ = some (.int .u8 z6) ∧ (w.alloc (.cells #[.int .i64 0, .int .i64 0, .int .i64 0, .slice none 0 0, .slice none 0 0, .slice none 0 0, .int .i64 0, .int .i64 0, .int .i64 0] 62)).cell? ⟨b, o + 7, none⟩ = some (.int .u8 z7) := ⟨k5, k6, k7⟩
        have HS0 := Lib.hid (show (w.alloc (.cells #[.int .i64 0, .int .i64 0, .int .i64 0, .slice none 0 0, .slice none 0 0, .slice none 0 0, .int .i64 0, .int .i64 0, .int .i64 0] 62)).drew.cell? ⟨b, o + 5, none⟩ = some (.int .u8 z5) ∧ (w.alloc (.cells #[.int .i64 0, .int .i64 0, .int .i64 0, .slice none 0 0, .slice none 0 0, .slice none 0 0, .int .i64 0, .int .i64 0, .int .i64 0] 62)).drew.cell? ⟨b, o + 6, none⟩ = some (.int .u8 z6) ∧ (w.alloc (.cells #[.int .i64 0, .int .i64 0, .int .i64 0, .slice none 0 0, .slice none 0 0, .slice none 0 0, .int .i64 0, .int .i64 0, .int .i64 0] 62)).drew.cell? ⟨b, o + 7, none⟩ = some (.int .u8 z7) from hS0)
        have HBA := Lib.hid (show Below w.heap.size (w.alloc (.cells #[.int .i64 0, .int .i64 0, .int .i64 0, .slice none 0 0, .slice none 0 0, .slice none 0 0, .int .i64 0, .int .i64 0, .int .i64 0] 62)) (((w.alloc (.cells #[.int .i64 0, .int .i64 0, .int .i64 0, .slice none 0 0, .slice none 0 0, .slice none 0 0, .int .i64 0, .int .i64 0, .int .i64 0] 62)).alloc (.cells #[] 5)).drew) from ((Below.refl _ _).alloc (by simp) _).drew)
        have HBB := Lib.hid (show Below w.heap.size (w.alloc (.cells #[.int .i64 0, .int .i64 0, .int .i64 0, .slice none 0 0, .slice none 0 0, .slice none 0 0, .int .i64 0, .int .i64 0, .int .i64 0] 62)) ((((w.alloc (.cells #[.int .i64 0, .int .i64 0, .int .i64 0, .slice none 0 0, .slice none 0 0, .slice none 0 0, .int .i64 0, .int .i64 0, .int .i64 0] 62)).alloc (.cells #[] 5)).alloc (.cells #[.int .i64 0, .int .i64 0, .int .i64 0, .slice none 0 0, .slice none 0 0, .slice none 0 0] 26)).drew) from (((Below.refl _ _).alloc (by simp) _).alloc (by simp; omega) _).drew)
        have HBC := Lib.hid (show Below w.heap.size (w.alloc (.cells #[.int .i64 0, .int .i64 0, .int .i64 0, .slice none 0 0, .slice none 0 0, .slice none 0 0, .int .i64 0, .int .i64 0, .int .i64 0] 62)) ((((w.alloc (.cells #[.int .i64 0, .int .i64 0, .int .i64 0, .slice none 0 0, .slice none 0 0, .slice none 0 0, .int .i64 0, .int .i64 0, .int .i64 0] 62)).alloc (.cells #[.int .i64 0, .int .i64 0, .int .i64 0, .slice none 0 0, .slice none 0 0, .slice none 0 0] 26)).alloc (.cells #[] 5)).drew) from (((Below.refl _ _).alloc (by simp) _).alloc (by simp; omega) _).drew)
        have HEA := Lib.hid (show Below (w.alloc (.cells #[.int .i64 0, .int .i64 0, .int .i64 0, .slice none 0 0, .slice none 0 0, .slice none 0 0, .int .i64 0, .int .i64 0, .int .i64 0] 62)).heap.size (w.alloc (.cells #[.int .i64 0, .int .i64 0, .int .i64 0, .slice none 0 0, .slice none 0 0, .slice none 0 0, .int .i64 0, .int .i64 0, .int .i64 0] 62)) (((w.alloc (.cells #[.int .i64 0, .int .i64 0, .int .i64 0, .slice none 0 0, .slice none 0 0, .slice none 0 0, .int .i64 0, .int .i64 0, .int .i64 0] 62)).alloc (.cells #[] 5)).drew) from ((Below.refl _ _).alloc (Nat.le_refl _) _).drew)
        have HEB := Lib.hid (show Below (w.alloc (.cells #[.int .i64 0, .int .i64 0, .int .i64 0, .slice none 0 0, .slice none 0 0, .slice none 0 0, .int .i64 0, .int .i64 0, .int .i64 0] 62)).heap.size (w.alloc (.cells #[.int .i64 0, .int .i64 0, .int .i64 0, .slice none 0 0, .slice none 0 0, .slice none 0 0, .int .i64 0, .int .i64 0, .int .i64 0] 62)) ((((w.alloc (.cells #[.int .i64 0, .int .i64 0, .int .i64 0, .slice none 0 0, .slice none 0 0, .slice none 0 0, .int .i64 0, .int .i64 0, .int .i64 0] 62)).alloc (.cells #[] 5)).alloc (.cells #[.int .i64 0, .int .i64 0, .int .i64 0, .slice none 0 0, .slice none 0 0, .slice none 0 0] 26)).drew) from (((Below.refl _ _).alloc (Nat.le_refl _) _).alloc (by simp) _).drew)
        have HEC := Lib.hid (show Below (w.alloc (.cells #[.int .i64 0, .int .i64 0, .int .i64 0, .slice none 0 0, .slice none 0 0, .slice none 0 0, .int .i64 0, .int .i64 0, .int .i64 0] 62)).heap.size (w.alloc (.cells #[.int .i64 0, .int .i64 0, .int .i64 0, .slice none 0 0, .slice none 0 0, .slice none 0 0, .int .i64 0, .int .i64 0, .int .i64 0] 62)) ((((w.alloc (.cells #[.int .i64 0, .int .i64 0, .int .i64 0, .slice none 0 0, .slice none 0 0, .slice none 0 0, .int .i64 0, .int .i64 0, .int .i64 0] 62)).alloc (.cells #[.int .i64 0, .int .i64 0, .int .i64 0, .slice none 0 0, .slice none 0 0, .slice none 0 0] 26)).alloc (.cells #[] 5)).drew) from (((Below.refl _ _).alloc (Nat.le_refl _) _).alloc (by simp) _).drew)
        have HKA := Lib.hid (k3_below HBA.out hbw hbw hbw hS0)
        have HKB := Lib.hid (k3_below HBB.out hbw hbw hbw hS0)
        have HKC := Lib.hid (k3_below HBC.out hbw hbw hbw hS0)
        have HKZ := Lib.hid (k3_below (show Below w.heap.size (w.alloc (.cells #[.int .i64 0, .int .i64 0, .int .i64 0, .slice none 0 0, .slice none 0 0, .slice none 0 0, .int .i64 0, .int .i64 0, .int .i64 0] 62)) (((w.alloc (.cells #[.int .i64 0, .int .i64 0, .int .i64 0, .slice none 0 0, .slice none 0 0, .slice none 0 0, .int .i64 0, .int .i64 0, .int .i64 0] 62)).alloc (.cells #[.int .i64 0, .int .i64 0, .int .i64 0, .slice none 0 0, .slice none 0 0, .slice none 0 0] 26)).drew) from ((Below.refl _ _).alloc (by simp) _).drew) hbw hbw hbw hS0)
        have hoa := (own_new (w.alloc (.cells #[.int .i64 0, .int .i64 0, .int .i64 0, .slice none 0 0, .slice none 0 0, .slice none 0 0, .int .i64 0, .int .i64 0, .int .i64 0] 62))).drew
        rw [World.size_alloc] at hoa
        have HOA := Lib.hid hoa
        have hob := ((own_new (w.alloc (.cells #[.int .i64 0, .int .i64 0, .int .i64 0, .slice none 0 0, .slice none 0 0, .slice none 0 0, .int .i64 0, .int .i64 0, .int .i64 0] 62))).alloc (.cells #[.int .i64 0, .int .i64 0, .int .i64 0, .slice none 0 0, .slice none 0 0, .slice none 0 0] 26)).drew
        rw [World.size_alloc] at hob
        have HOB := Lib.hid hob
        have hoc := (own_new ((w.alloc (.cells #[.int .i64 0, .int .i64 0, .int .i64 0, .slice none 0 0, .slice none 0 0, .slice none 0 0, .int .i64 0, .int .i64 0, .int .i64 0] 62)).alloc (.cells #[.int .i64 0, .int .i64 0, .int .i64 0, .slice none 0 0, .slice none 0 0, .slice none 0 0] 26))).drew
        rw [World.size_alloc, World.size_alloc] at hoc
        have HOC := Lib.hid (Joins.ownsRow_le (base' := w.heap.size + 1) hoc (by omega))
        have HPB := Lib.hid (show PB ((((w.alloc (.cells #[.int .i64 0, .int .i64 0, .int .i64 0, .slice none 0 0, .slice none 0 0, .slice none 0 0, .int .i64 0, .int .i64 0, .int .i64 0] 62)).alloc (.cells #[] 5)).alloc (.cells #[.int .i64 0, .int .i64 0, .int .i64 0, .slice none 0 0, .slice none 0 0, .slice none 0 0] 26)).drew) (w.heap.size + 1 + 1) (.int .i64 0) (.int .i64 0) (.int .i64 0) (.slice none 0 0) (.slice none 0 0) (.slice none 0 0) from by
          have := heap_alloc_new ((w.alloc (.cells #[.int .i64 0, .int .i64 0, .int .i64 0, .slice none 0 0, .slice none 0 0, .slice none 0 0, .int .i64 0, .int .i64 0, .int .i64 0] 62)).alloc (.cells #[] 5)) (.cells #[.int .i64 0, .int .i64 0, .int .i64 0, .slice none 0 0, .slice none 0 0, .slice none 0 0] 26)
          rwa [World.size_alloc, World.size_alloc] at this)
        have HPC := Lib.hid (show PB ((((w.alloc (.cells #[.int .i64 0, .int .i64 0, .int .i64 0, .slice none 0 0, .slice none 0 0, .slice none 0 0, .int .i64 0, .int .i64 0, .int .i64 0] 62)).alloc (.cells #[.int .i64 0, .int .i64 0, .int .i64 0, .slice none 0 0, .slice none 0 0, .slice none 0 0] 26)).alloc (.cells #[] 5)).drew) (w.heap.size + 1) (.int .i64 0) (.int .i64 0) (.int .i64 0) (.slice none 0 0) (.slice none 0 0) (.slice none 0 0) from by
          have := heap_alloc_new (w.alloc (.cells #[.int .i64 0, .int .i64 0, .int .i64 0, .slice none 0 0, .slice none 0 0, .slice none 0 0, .int .i64 0, .int .i64 0, .int .i64 0] 62)) (.cells #[.int .i64 0, .int .i64 0, .int .i64 0, .slice none 0 0, .slice none 0 0, .slice none 0 0] 26)
          rw [World.size_alloc] at this
          exact (Below.heap_alloc _ _ _ (by simp)).trans this)
        have hbw1 : b < w.heap.size + 1 := by omega
        have i5 : (5 : Int) < len := by omega
        have i6 : (6 : Int) < len := by omega
        have i7 : (7 : Int) < len := by omega
        have w9' : IntKind.i64.wrap (9 + (n : Int)) = 9 + n := by rw [IntKind.wrap_i64]; omega
        have l9 : (9 : Int) + n ≤ cap := by omega
        have l9' : (9 : Int) ≤ 9 + n := by omega
        have hcast : ((9 : Int) + n - 9).toNat = n := by omega
        have hcast2 : ((9 : Int) + n).toNat = 9 + n := by omega
        clear hS0 hoa hob hoc
        by_cases hc9 : cap = 9
        · subst hc9
          have l9'' : (9 : Int) + n ≤ 9 := by omega
          have hslw : Sl w (some ⟨b, o, none⟩) n (((xs.drop 9).take n).map (Value.int .u8)) := (ByR.cut0 (g := w.heap.size) (i := 9) (n := n) ⟨HXW.out, fun _ b1 o1 s1 e1 => by simp only [Option.some.injEq, Addr.mk.injEq] at e1; omega⟩ (by omega) rfl).sl.sl
          have HSA := Lib.hid (show Sl (((w.alloc (.cells #[.int .i64 0, .int .i64 0, .int .i64 0, .slice none 0 0, .slice none 0 0, .slice none 0 0, .int .i64 0, .int .i64 0, .int .i64 0] 62)).alloc (.cells #[] 5)).drew) (some ⟨b, o, none⟩) n (((xs.drop 9).take n).map (Value.int .u8)) from hslw.below ((Below.box w _).trans (HBA.out.mono (by simp))))
          have HSB := Lib.hid (show Sl ((((w.alloc (.cells #[.int .i64 0, .int .i64 0, .int .i64 0, .slice none 0 0, .slice none 0 0, .slice none 0 0, .int .i64 0, .int .i64 0, .int .i64 0] 62)).alloc (.cells #[] 5)).alloc (.cells #[.int .i64 0, .int .i64 0, .int .i64 0, .slice none 0 0, .slice none 0 0, .slice none 0 0] 26)).drew) (some ⟨b, o, none⟩) n (((xs.drop 9).take n).map (Value.int .u8)) from hslw.below ((Below.box w _).trans (HBB.out.mono (by simp))))
          have HSC := Lib.hid (show Sl ((((w.alloc (.cells #[.int .i64 0, .int .i64 0, .int .i64 0, .slice none 0 0, .slice none 0 0, .slice none 0 0, .int .i64 0, .int .i64 0, .int .i64 0] 62)).alloc (.cells #[.int .i64 0, .int .i64 0, .int .i64 0, .slice none 0 0, .slice none 0 0, .slice none 0 0] 26)).alloc (.cells #[] 5)).drew) (some ⟨b, o, none⟩) n (((xs.drop 9).take n).map (Value.int .u8)) from hslw.below ((Below.box w _).trans (HBC.out.mono (by simp))))
          clear hslw
          go_region_held3 (fun W => W.cell? ⟨b, o + 5, none⟩ = some (.int .u8 z5) ∧ W.cell? ⟨b, o + 6, none⟩ = some (.int .u8 z6) ∧ W.cell? ⟨b, o + 7, none⟩ = some (.int .u8 z7))
            (first
              | with_reducible exact HS0.out
              | with_reducible exact HKA.out
              | with_reducible exact HKB.out
              | with_reducible exact HKC.out
              | with_reducible exact HKZ.out
              | with_reducible exact HS9.out
              | with_reducible exact k3_below (set6_below (Below.refl w.heap.size w9) hpge _ _ _ _ _ _) hbw hbw hbw HS9.out
              | with_reducible exact k3_below ((Below.refl w.heap.size w9).alloc hs9 _) hbw hbw hbw HS9.out
              | with_reducible exact k3_below (((Below.refl w.heap.size w9).alloc hs9 _).drew) hbw hbw hbw HS9.out
              | fail)
            (first
              | ((with_reducible change if _ then Oper.wp _ _ _ (((w.alloc (.cells #[.int .i64 0, .int .i64 0, .int .i64 0, .slice none 0 0, .slice none 0 0, .slice none 0 0, .int .i64 0, .int .i64 0, .int .i64 0] 62)).alloc (.cells #[] 5)).drew) _ _ else _); refine step_ap' (w := ((w.alloc (.cells #[.int .i64 0, .int .i64 0, .int .i64 0, .slice none 0 0, .slice none 0 0, .slice none 0 0, .int .i64 0, .int .i64 0, .int .i64 0] 62)).alloc (.cells #[] 5)).drew) rfl (.tmp 96) (.tmp 100) 22 rfl (w.heap.size + 1) 5 i0 _ 1 Tryd.underlying22 hi0 hz0 hz1 hz2 rfl (.slice (some ⟨w.heap.size + 1, 0, none⟩) 0 0) 0 [] rfl HOA.out ⟨b, o, none⟩ n 0 (((xs.drop 9).take n).map (Value.int .u8)) rfl HSA.out (one_cell _) (by simp only [maxLen]; omega) (by omega) (by simp) n (((xs.drop 9).take n).map (Value.int .u8)) (by omega) (by simp) ?_; intro A9 c9 w9 ho9 hb9 hg9 hat9; have HT9 := Lib.hid hat9; clear hat9; have HN9 := Lib.hid (show NB w9 w.heap.size (.int .i64 0) (.int .i64 0) (.int .i64 0) (.slice none 0 0) (.slice none 0 0) (.slice none 0 0) (.int .i64 0) (.int .i64 0) (.int .i64 0) from (hb9.block _ (by omega)).trans (HNB.out.keep HEA.out)); have HW9 := Lib.hid (show Below w.heap.size w w9 from ((Below.box w _).trans (HBA.out.mono (by simp))).trans (hb9.mono (by omega))); have HY9 := Lib.hid (show BySl w9 A9 n c9 ((xs.drop 9).take n) from BySl.of_own ho9 (isB_cut HB8.out 9 n)); have HU9 := Lib.hid (show ∀ b o s, A9 = some ⟨b, o, s⟩ → w.heap.size < b from own_far ho9); have HS9 := Lib.hid (k3_below hb9 hbw1 hbw1 hbw1 HKA.out); have hs9 : w.heap.size ≤ w9.heap.size := (by have := hb9.size; simp at this; omega))
              | ((with_reducible change if _ then Oper.wp _ _ _ ((((w.alloc (.cells #[.int .i64 0, .int .i64 0, .int .i64 0, .slice none 0 0, .slice none 0 0, .slice none 0 0, .int .i64 0, .int .i64 0, .int .i64 0] 62)).alloc (.cells #[] 5)).alloc (.cells #[.int .i64 0, .int .i64 0, .int .i64 0, .slice none 0 0, .slice none 0 0, .slice none 0 0] 26)).drew) _ _ else _); refine step_ap' (w := (((w.alloc (.cells #[.int .i64 0, .int .i64 0, .int .i64 0, .slice none 0 0, .slice none 0 0, .slice none 0 0, .int .i64 0, .int .i64 0, .int .i64 0] 62)).alloc (.cells #[] 5)).alloc (.cells #[.int .i64 0, .int .i64 0, .int .i64 0, .slice none 0 0, .slice none 0 0, .slice none 0 0] 26)).drew) rfl (.tmp 96) (.tmp 100) 22 rfl (w.heap.size + 1) 5 i0 _ 1 Tryd.underlying22 hi0 hz0 hz1 hz2 rfl (.slice (some ⟨w.heap.size + 1, 0, none⟩) 0 0) 0 [] rfl HOB.out ⟨b, o, none⟩ n 0 (((xs.drop 9).take n).map (Value.int .u8)) rfl HSB.out (one_cell _) (by simp only [maxLen]; omega) (by omega) (by simp) n (((xs.drop 9).take n).map (Value.int .u8)) (by omega) (by simp) ?_; intro A9 c9 w9 ho9 hb9 hg9 hat9; have HT9 := Lib.hid hat9; clear hat9; have HN9 := Lib.hid (show NB w9 w.heap.size (.int .i64 0) (.int .i64 0) (.int .i64 0) (.slice none 0 0) (.slice none 0 0) (.slice none 0 0) (.int .i64 0) (.int .i64 0) (.int .i64 0) from (hb9.block _ (by omega)).trans (HNB.out.keep HEB.out)); have HW9 := Lib.hid (show Below w.heap.size w w9 from ((Below.box w _).trans (HBB.out.mono (by simp))).trans (hb9.mono (by omega))); have HY9 := Lib.hid (show BySl w9 A9 n c9 ((xs.drop 9).take n) from BySl.of_own ho9 (isB_cut HB8.out 9 n)); have HU9 := Lib.hid (show ∀ b o s, A9 = some ⟨b, o, s⟩ → w.heap.size < b from own_far ho9); have HS9 := Lib.hid (k3_below hb9 hbw1 hbw1 hbw1 HKB.out); have hs9 : w.heap.size ≤ w9.heap.size := (by have := hb9.size; simp at this; omega); have HP9 := Lib.hid (show PB w9 (w.heap.size + 1 + 1) (.int .i64 0) (.int .i64 0) (.int .i64 0) (.slice none 0 0) (.slice none 0 0) (.slice none 0 0) from (hg9.block _ (by simp) (by simp [Value.ownBlock])).trans HPB.out); have hpge : w.heap.size ≤ w.heap.size + 1 + 1 := (by omega); have u0 := HP9.out.c0; have u1 := HP9.out.c1; have u2 := HP9.out.c2; have u3 := HP9.out.c3; have u4 := HP9.out.c4; have u5 := HP9.out.c5; have f0 := HP9.out.fr 0; have f1 := HP9.out.fr 1; have f2 := HP9.out.fr 2; have f3 := HP9.out.fr 3; have f4 := HP9.out.fr 4; have f5 := HP9.out.fr 5)
              | ((with_reducible change if _ then Oper.wp _ _ _ ((((w.alloc (.cells #[.int .i64 0, .int .i64 0, .int .i64 0, .slice none 0 0, .slice none 0 0, .slice none 0 0, .int .i64 0, .int .i64 0, .int .i64 0] 62)).alloc (.cells #[.int .i64 0, .int .i64 0, .int .i64 0, .slice none 0 0, .slice none 0 0, .slice none 0 0] 26)).alloc (.cells #[] 5)).drew) _ _ else _); refine step_ap' (w := (((w.alloc (.cells #[.int .i64 0, .int .i64 0, .int .i64 0, .slice none 0 0, .slice none 0 0, .slice none 0 0, .int .i64 0, .int .i64 0, .int .i64 0] 62)).alloc (.cells #[.int .i64 0, .int .i64 0, .int .i64 0, .slice none 0 0, .slice none 0 0, .slice none 0 0] 26)).alloc (.cells #[] 5)).drew) rfl (.tmp 96) (.tmp 100) 22 rfl (w.heap.size + 1) 5 i0 _ 1 Tryd.underlying22 hi0 hz0 hz1 hz2 rfl (.slice (some ⟨w.heap.size + 1 + 1, 0, none⟩) 0 0) 0 [] rfl HOC.out ⟨b, o, none⟩ n 0 (((xs.drop 9).take n).map (Value.int .u8)) rfl HSC.out (one_cell _) (by simp only [maxLen]; omega) (by omega) (by simp) n (((xs.drop 9).take n).map (Value.int .u8)) (by omega) (by simp) ?_; intro A9 c9 w9 ho9 hb9 hg9 hat9; have HT9 := Lib.hid hat9; clear hat9; have HN9 := Lib.hid (show NB w9 w.heap.size (.int .i64 0) (.int .i64 0) (.int .i64 0) (.slice none 0 0) (.slice none 0 0) (.slice none 0 0) (.int .i64 0) (.int .i64 0) (.int .i64 0) from (hb9.block _ (by omega)).trans (HNB.out.keep HEC.out)); have HW9 := Lib.hid (show Below w.heap.size w w9 from ((Below.box w _).trans (HBC.out.mono (by simp))).trans (hb9.mono (by omega))); have HY9 := Lib.hid (show BySl w9 A9 n c9 ((xs.drop 9).take n) from BySl.of_own ho9 (isB_cut HB8.out 9 n)); have HU9 := Lib.hid (show ∀ b o s, A9 = some ⟨b, o, s⟩ → w.heap.size < b from own_far ho9); have HS9 := Lib.hid (k3_below hb9 hbw1 hbw1 hbw1 HKC.out); have hs9 : w.heap.size ≤ w9.heap.size := (by have := hb9.size; simp at this; omega); have HP9 := Lib.hid (show PB w9 (w.heap.size + 1) (.int .i64 0) (.int .i64 0) (.int .i64 0) (.slice none 0 0) (.slice none 0 0) (.slice none 0 0) from (hg9.block _ (by simp) (by simp [Value.ownBlock])).trans HPC.out); have hpge : w.heap.size ≤ w.heap.size + 1 := (by omega); have u0 := HP9.out.c0; have u1 := HP9.out.c1; have u2 := HP9.out.c2; have u3 := HP9.out.c3; have u4 := HP9.out.c4; have u5 := HP9.out.c5; have f0 := HP9.out.fr 0; have f1 := HP9.out.fr 1; have f2 := HP9.out.fr 2; have f3 := HP9.out.fr 3; have f4 := HP9.out.fr 4; have f5 := HP9.out.fr 5))
          · have hPU : PB (w9.alloc (.cells #[.int .i64 z5, .int .i64 z6, .int .i64 z7, .slice A9 n c9, .slice none 0 0, .slice none 0 0] 26)) (w9.heap.size) (.int .i64 z5) (.int .i64 z6) (.int .i64 z7) (.slice A9 n c9) (.slice none 0 0) (.slice none 0 0) := heap_alloc_new w9 _
            have hNU : NB (w9.alloc (.cells #[.int .i64 z5, .int .i64 z6, .int .i64 z7, .slice A9 n c9, .slice none 0 0, .slice none 0 0] 26)) w.heap.size (.int .i64 0) (.int .i64 0) (.int .i64 0) (.slice none 0 0) (.slice none 0 0) (.slice none 0 0) (.int .i64 0) (.int .i64 0) (.int .i64 0) := HN9.out.keep (Below.box w9 _)
            have hBU : Below w.heap.size w (w9.alloc (.cells #[.int .i64 z5, .int .i64 z6, .int .i64 z7, .slice A9 n c9, .slice none 0 0, .slice none 0 0] 26)) := HW9.out.alloc hs9 _
            have hYU : BySl (w9.alloc (.cells #[.int .i64 z5, .int .i64 z6, .int .i64 z7, .slice A9 n c9, .slice none 0 0, .slice none 0 0] 26)) A9 n c9 ((xs.drop 9).take n) := HY9.out.below (Below.box w9 _)
            have HA9 := HU9
            clear HB8 HS9 HT9 HN9 HW9 HY9 HU9 ho9 hb9 hg9 hs9 HOA HOB HOC HKA HKB HKC HKZ HS0 HSA HSB HSC HBA HBB HBC HEA HEB HEC HPB HPC HNB HCE
            clear k5 k6 k7 cz
            try clear hHeld
            revert hPU hNU hBU hYU
            generalize w9.alloc (.cells #[.int .i64 z5, .int .i64 z6, .int .i64 z7, .slice A9 n c9, .slice none 0 0, .slice none 0 0] 26) = U
            intro hPU hNU hBU hYU
            have q0 := hPU.c0
            have q1 := hPU.c1
            have q2 := hPU.c2
            have q3 := hPU.c3
            have q4 := hPU.c4
            have q5 := hPU.c5
            have r0 := hNU.c0
            have r1 := hNU.c1
            have r2 := hNU.c2
            have r3 := hNU.c3
            have r4 := hNU.c4
            have r5 := hNU.c5
            have r6 := hNU.c6
            have r7 := hNU.c7
            have r8 := hNU.c8
            have rf := hNU.fr
            have HNU := Lib.hid hNU
            have HBU := Lib.hid hBU
            have HYU := Lib.hid hYU
            clear hPU hNU hBU hYU
            go_wp2
            have hall := NB.all HNU.out (.int .i64 z5) (.int .i64 z6) (.int .i64 z7) (.slice A9 n c9) (.slice none 0 0) (.slice none 0 0) (.int .i64 (9 + (n : Int))) (.int .i64 0) (.int .i64 0)
            have hbel := set9_below HBU.out (Nat.le_refl w.heap.size) (.int .i64 z5) (.int .i64 z6) (.int .i64 z7) (.slice A9 n c9) (.slice none 0 0) (.slice none 0 0) (.int .i64 (9 + (n : Int))) (.int .i64 0) (.int .i64 0)
            have hyy := (ByR.rd ⟨HYU.out, fun _ b o s e => Nat.ne_of_gt (HA9.out b o s e)⟩ (rd9 (g := w.heap.size) U (.int .i64 z5) (.int .i64 z6) (.int .i64 z7) (.slice A9 n c9) (.slice none 0 0) (.slice none 0 0) (.int .i64 (9 + (n : Int))) (.int .i64 0) (.int .i64 0))).sl
            clear q0 q1 q2 q3 q4 q5 r0 r1 r2 r3 r4 r5 r6 r7 r8 rf HNU HBU HYU
            revert hall hbel hyy
            generalize (((((((((U.setCell ⟨w.heap.size, 0, none⟩ (.int .i64 z5)).setCell ⟨w.heap.size, 1, none⟩ (.int .i64 z6)).setCell ⟨w.heap.size, 2, none⟩ (.int .i64 z7)).setCell ⟨w.heap.size, 3, none⟩ (.slice A9 n c9)).setCell ⟨w.heap.size, 4, none⟩ (.slice none 0 0)).setCell ⟨w.heap.size, 5, none⟩ (.slice none 0 0)).setCell ⟨w.heap.size, 6, none⟩ (.int .i64 (9 + (n : Int)))).setCell ⟨w.heap.size, 7, none⟩ (.int .i64 0)).setCell ⟨w.heap.size, 8, none⟩ (.int .i64 0)) = W'
            intro hall hbel hyy
            have k0 := hall.c0
            have k1 := hall.c1
            have k2 := hall.c2
            have k3 := hall.c3
            have k4 := hall.c4
            have k5 := hall.c5
            have k6 := hall.c6
            have k7 := hall.c7
            have k8 := hall.c8
            refine bodyPost_ret (v := .agg #[.int .i64 z5, .int .i64 z6, .int .i64 z7, .slice A9 n c9, .slice none 0 0, .slice none 0 0, .int .i64 (9 + (n : Int)), .int .i64 0, .int .i64 0]) (by simp [results, Tryd.results31, go_sem, k0, k1, k2, k3, k4, k5, k6, k7, k8]) rfl ⟨hbel, .inr ⟨HD.out, by rw [HND.out, HLEN.out]; omega, A9, n, c9, ?_, by rw [HND.out]; exact hyy, fun b o s e => Nat.le_of_lt (HA9.out b o s e)⟩⟩
            rw [hnn.out.1, hnn.out.2.1, hnn.out.2.2, HND.out]
            rfl
          · have hPU : PB (((((((w9.setCell ⟨w.heap.size + 1 + 1, 0, none⟩ (.int .i64 z5)).setCell ⟨w.heap.size + 1 + 1, 1, none⟩ (.int .i64 z6)).setCell ⟨w.heap.size + 1 + 1, 2, none⟩ (.int .i64 z7)).setCell ⟨w.heap.size + 1 + 1, 3, none⟩ (.slice A9 n c9)).setCell ⟨w.heap.size + 1 + 1, 4, none⟩ (.slice none 0 0)).setCell ⟨w.heap.size + 1 + 1, 5, none⟩ (.slice none 0 0))) (w.heap.size + 1 + 1) (.int .i64 z5) (.int .i64 z6) (.int .i64 z7) (.slice A9 n c9) (.slice none 0 0) (.slice none 0 0) := ((((((HP9.out.s0 _).s1 _).s2 _).s3 _).s4 _).s5 _)
            have hNU : NB (((((((w9.setCell ⟨w.heap.size + 1 + 1, 0, none⟩ (.int .i64 z5)).setCell ⟨w.heap.size + 1 + 1, 1, none⟩ (.int .i64 z6)).setCell ⟨w.heap.size + 1 + 1, 2, none⟩ (.int .i64 z7)).setCell ⟨w.heap.size + 1 + 1, 3, none⟩ (.slice A9 n c9)).setCell ⟨w.heap.size + 1 + 1, 4, none⟩ (.slice none 0 0)).setCell ⟨w.heap.size + 1 + 1, 5, none⟩ (.slice none 0 0))) w.heap.size (.int .i64 0) (.int .i64 0) (.int .i64 0) (.slice none 0 0) (.slice none 0 0) (.slice none 0 0) (.int .i64 0) (.int .i64 0) (.int .i64 0) := ((rd6 (g := w.heap.size + 1 + 1) w9 (.int .i64 z5) (.int .i64 z6) (.int .i64 z7) (.slice A9 n c9) (.slice none 0 0) (.slice none 0 0)).block _ HN9.out.lt (by omega)).trans HN9.out
            have hBU : Below w.heap.size w (((((((w9.setCell ⟨w.heap.size + 1 + 1, 0, none⟩ (.int .i64 z5)).setCell ⟨w.heap.size + 1 + 1, 1, none⟩ (.int .i64 z6)).setCell ⟨w.heap.size + 1 + 1, 2, none⟩ (.int .i64 z7)).setCell ⟨w.heap.size + 1 + 1, 3, none⟩ (.slice A9 n c9)).setCell ⟨w.heap.size + 1 + 1, 4, none⟩ (.slice none 0 0)).setCell ⟨w.heap.size + 1 + 1, 5, none⟩ (.slice none 0 0))) := set6_below HW9.out hpge _ _ _ _ _ _
            have hYU : BySl (((((((w9.setCell ⟨w.heap.size + 1 + 1, 0, none⟩ (.int .i64 z5)).setCell ⟨w.heap.size + 1 + 1, 1, none⟩ (.int .i64 z6)).setCell ⟨w.heap.size + 1 + 1, 2, none⟩ (.int .i64 z7)).setCell ⟨w.heap.size + 1 + 1, 3, none⟩ (.slice A9 n c9)).setCell ⟨w.heap.size + 1 + 1, 4, none⟩ (.slice none 0 0)).setCell ⟨w.heap.size + 1 + 1, 5, none⟩ (.slice none 0 0))) A9 n c9 ((xs.drop 9).take n) := (ByR.rd ⟨HY9.out, fun _ b o s e => by subst e; rcases HT9.out with h | h <;> simp [Value.ownBlock] at h <;> omega⟩ (rd6 (g := w.heap.size + 1 + 1) w9 (.int .i64 z5) (.int .i64 z6) (.int .i64 z7) (.slice A9 n c9) (.slice none 0 0) (.slice none 0 0))).sl
            have HA9 := HU9
            clear HB8 HS9 HT9 HN9 HW9 HY9 HU9 ho9 hb9 hg9 hs9 HOA HOB HOC HKA HKB HKC HKZ HS0 HSA HSB HSC HBA HBB HBC HEA HEB HEC HPB HPC HNB HCE HP9 hpge u0 u1 u2 u3 u4 u5 f0 f1 f2 f3 f4 f5
            clear k5 k6 k7 cz
            try clear hHeld
            revert hPU hNU hBU hYU
            generalize ((((((w9.setCell ⟨w.heap.size + 1 + 1, 0, none⟩ (.int .i64 z5)).setCell ⟨w.heap.size + 1 + 1, 1, none⟩ (.int .i64 z6)).setCell ⟨w.heap.size + 1 + 1, 2, none⟩ (.int .i64 z7)).setCell ⟨w.heap.size + 1 + 1, 3, none⟩ (.slice A9 n c9)).setCell ⟨w.heap.size + 1 + 1, 4, none⟩ (.slice none 0 0)).setCell ⟨w.heap.size + 1 + 1, 5, none⟩ (.slice none 0 0)) = U
            intro hPU hNU hBU hYU
            have q0 := hPU.c0
            have q1 := hPU.c1
            have q2 := hPU.c2
            have q3 := hPU.c3
            have q4 := hPU.c4
            have q5 := hPU.c5
            have r0 := hNU.c0
            have r1 := hNU.c1
            have r2 := hNU.c2
            have r3 := hNU.c3
            have r4 := hNU.c4
            have r5 := hNU.c5
            have r6 := hNU.c6
            have r7 := hNU.c7
            have r8 := hNU.c8
            have rf := hNU.fr
            have HNU := Lib.hid hNU
            have HBU := Lib.hid hBU
            have HYU := Lib.hid hYU
            clear hPU hNU hBU hYU
            go_wp2
            have hall := NB.all HNU.out (.int .i64 z5) (.int .i64 z6) (.int .i64 z7) (.slice A9 n c9) (.slice none 0 0) (.slice none 0 0) (.int .i64 (9 + (n : Int))) (.int .i64 0) (.int .i64 0)
            have hbel := set9_below HBU.out (Nat.le_refl w.heap.size) (.int .i64 z5) (.int .i64 z6) (.int .i64 z7) (.slice A9 n c9) (.slice none 0 0) (.slice none 0 0) (.int .i64 (9 + (n : Int))) (.int .i64 0) (.int .i64 0)
            have hyy := (ByR.rd ⟨HYU.out, fun _ b o s e => Nat.ne_of_gt (HA9.out b o s e)⟩ (rd9 (g := w.heap.size) U (.int .i64 z5) (.int .i64 z6) (.int .i64 z7) (.slice A9 n c9) (.slice none 0 0) (.slice none 0 0) (.int .i64 (9 + (n : Int))) (.int .i64 0) (.int .i64 0))).sl
            clear q0 q1 q2 q3 q4 q5 r0 r1 r2 r3 r4 r5 r6 r7 r8 rf HNU HBU HYU
            revert hall hbel hyy
            generalize (((((((((U.setCell ⟨w.heap.size, 0, none⟩ (.int .i64 z5)).setCell ⟨w.heap.size, 1, none⟩ (.int .i64 z6)).setCell ⟨w.heap.size, 2, none⟩ (.int .i64 z7)).setCell ⟨w.heap.size, 3, none⟩ (.slice A9 n c9)).setCell ⟨w.heap.size, 4, none⟩ (.slice none 0 0)).setCell ⟨w.heap.size, 5, none⟩ (.slice none 0 0)).setCell ⟨w.heap.size, 6, none⟩ (.int .i64 (9 + (n : Int)))).setCell ⟨w.heap.size, 7, none⟩ (.int .i64 0)).setCell ⟨w.heap.size, 8, none⟩ (.int .i64 0)) = W'
            intro hall hbel hyy
            have k0 := hall.c0
            have k1 := hall.c1
            have k2 := hall.c2
            have k3 := hall.c3
            have k4 := hall.c4
            have k5 := hall.c5
            have k6 := hall.c6
            have k7 := hall.c7
            have k8 := hall.c8
            refine bodyPost_ret (v := .agg #[.int .i64 z5, .int .i64 z6, .int .i64 z7, .slice A9 n c9, .slice none 0 0, .slice none 0 0, .int .i64 (9 + (n : Int)), .int .i64 0, .int .i64 0]) (by simp [results, Tryd.results31, go_sem, k0, k1, k2, k3, k4, k5, k6, k7, k8]) rfl ⟨hbel, .inr ⟨HD.out, by rw [HND.out, HLEN.out]; omega, A9, n, c9, ?_, by rw [HND.out]; exact hyy, fun b o s e => Nat.le_of_lt (HA9.out b o s e)⟩⟩
            rw [hnn.out.1, hnn.out.2.1, hnn.out.2.2, HND.out]
            rfl
          · have hPU : PB (((((((w9.setCell ⟨w.heap.size + 1, 0, none⟩ (.int .i64 z5)).setCell ⟨w.heap.size + 1, 1, none⟩ (.int .i64 z6)).setCell ⟨w.heap.size + 1, 2, none⟩ (.int .i64 z7)).setCell ⟨w.heap.size + 1, 3, none⟩ (.slice A9 n c9)).setCell ⟨w.heap.size + 1, 4, none⟩ (.slice none 0 0)).setCell ⟨w.heap.size + 1, 5, none⟩ (.slice none 0 0))) (w.heap.size + 1) (.int .i64 z5) (.int .i64 z6) (.int .i64 z7) (.slice A9 n c9) (.slice none 0 0) (.slice none 0 0) := ((((((HP9.out.s0 _).s1 _).s2 _).s3 _).s4 _).s5 _)
            have hNU : NB (((((((w9.setCell ⟨w.heap.size + 1, 0, none⟩ (.int .i64 z5)).setCell ⟨w.heap.size + 1, 1, none⟩ (.int .i64 z6)).setCell ⟨w.heap.size + 1, 2, none⟩ (.int .i64 z7)).setCell ⟨w.heap.size + 1, 3, none⟩ (.slice A9 n c9)).setCell ⟨w.heap.size + 1, 4, none⟩ (.slice none 0 0)).setCell ⟨w.heap.size + 1, 5, none⟩ (.slice none 0 0))) w.heap.size (.int .i64 0) (.int .i64 0) (.int .i64 0) (.slice none 0 0) (.slice none 0 0) (.slice none 0 0) (.int .i64 0) (.int .i64 0) (.int .i64 0) := ((rd6 (g := w.heap.size + 1) w9 (.int .i64 z5) (.int .i64 z6) (.int .i64 z7) (.slice A9 n c9) (.slice none 0 0) (.slice none 0 0)).block _ HN9.out.lt (by omega)).trans HN9.out
            have hBU : Below w.heap.size w (((((((w9.setCell ⟨w.heap.size + 1, 0, none⟩ (.int .i64 z5)).setCell ⟨w.heap.size + 1, 1, none⟩ (.int .i64 z6)).setCell ⟨w.heap.size + 1, 2, none⟩ (.int .i64 z7)).setCell ⟨w.heap.size + 1, 3, none⟩ (.slice A9 n c9)).setCell ⟨w.heap.size + 1, 4, none⟩ (.slice none 0 0)).setCell ⟨w.heap.size + 1, 5, none⟩ (.slice none 0 0))) := set6_below HW9.out hpge _ _ _ _ _ _
            have hYU : BySl (((((((w9.setCell ⟨w.heap.size + 1, 0, none⟩ (.int .i64 z5)).setCell ⟨w.heap.size + 1, 1, none⟩ (.int .i64 z6)).setCell ⟨w.heap.size + 1, 2, none⟩ (.int .i64 z7)).setCell ⟨w.heap.size + 1, 3, none⟩ (.slice A9 n c9)).setCell ⟨w.heap.size + 1, 4, none⟩ (.slice none 0 0)).setCell ⟨w.heap.size + 1, 5, none⟩ (.slice none 0 0))) A9 n c9 ((xs.drop 9).take n) := (ByR.rd ⟨HY9.out, fun _ b o s e => by subst e; rcases HT9.out with h | h <;> simp [Value.ownBlock] at h <;> omega⟩ (rd6 (g := w.heap.size + 1) w9 (.int .i64 z5) (.int .i64 z6) (.int .i64 z7) (.slice A9 n c9) (.slice none 0 0) (.slice none 0 0))).sl
            have HA9 := HU9
            clear HB8 HS9 HT9 HN9 HW9 HY9 HU9 ho9 hb9 hg9 hs9 HOA HOB HOC HKA HKB HKC HKZ HS0 HSA HSB HSC HBA HBB HBC HEA HEB HEC HPB HPC HNB HCE HP9 hpge u0 u1 u2 u3 u4 u5 f0 f1 f2 f3 f4 f5
            clear k5 k6 k7 cz
            try clear hHeld
            revert hPU hNU hBU hYU
            generalize ((((((w9.setCell ⟨w.heap.size + 1, 0, none⟩ (.int .i64 z5)).setCell ⟨w.heap.size + 1, 1, none⟩ (.int .i64 z6)).setCell ⟨w.heap.size + 1, 2, none⟩ (.int .i64 z7)).setCell ⟨w.heap.size + 1, 3, none⟩ (.slice A9 n c9)).setCell ⟨w.heap.size + 1, 4, none⟩ (.slice none 0 0)).setCell ⟨w.heap.size + 1, 5, none⟩ (.slice none 0 0)) = U
            intro hPU hNU hBU hYU
            have q0 := hPU.c0
            have q1 := hPU.c1
            have q2 := hPU.c2
            have q3 := hPU.c3
            have q4 := hPU.c4
            have q5 := hPU.c5
            have r0 := hNU.c0
            have r1 := hNU.c1
            have r2 := hNU.c2
            have r3 := hNU.c3
            have r4 := hNU.c4
            have r5 := hNU.c5
            have r6 := hNU.c6
            have r7 := hNU.c7
            have r8 := hNU.c8
            have rf := hNU.fr
            have HNU := Lib.hid hNU
            have HBU := Lib.hid hBU
            have HYU := Lib.hid hYU
            clear hPU hNU hBU hYU
            go_wp2
            have hall := NB.all HNU.out (.int .i64 z5) (.int .i64 z6) (.int .i64 z7) (.slice A9 n c9) (.slice none 0 0) (.slice none 0 0) (.int .i64 (9 + (n : Int))) (.int .i64 0) (.int .i64 0)
            have hbel := set9_below HBU.out (Nat.le_refl w.heap.size) (.int .i64 z5) (.int .i64 z6) (.int .i64 z7) (.slice A9 n c9) (.slice none 0 0) (.slice none 0 0) (.int .i64 (9 + (n : Int))) (.int .i64 0) (.int .i64 0)
            have hyy := (ByR.rd ⟨HYU.out, fun _ b o s e => Nat.ne_of_gt (HA9.out b o s e)⟩ (rd9 (g := w.heap.size) U (.int .i64 z5) (.int .i64 z6) (.int .i64 z7) (.slice A9 n c9) (.slice none 0 0) (.slice none 0 0) (.int .i64 (9 + (n : Int))) (.int .i64 0) (.int .i64 0))).sl
            clear q0 q1 q2 q3 q4 q5 r0 r1 r2 r3 r4 r5 r6 r7 r8 rf HNU HBU HYU
            revert hall hbel hyy
            generalize (((((((((U.setCell ⟨w.heap.size, 0, none⟩ (.int .i64 z5)).setCell ⟨w.heap.size, 1, none⟩ (.int .i64 z6)).setCell ⟨w.heap.size, 2, none⟩ (.int .i64 z7)).setCell ⟨w.heap.size, 3, none⟩ (.slice A9 n c9)).setCell ⟨w.heap.size, 4, none⟩ (.slice none 0 0)).setCell ⟨w.heap.size, 5, none⟩ (.slice none 0 0)).setCell ⟨w.heap.size, 6, none⟩ (.int .i64 (9 + (n : Int)))).setCell ⟨w.heap.size, 7, none⟩ (.int .i64 0)).setCell ⟨w.heap.size, 8, none⟩ (.int .i64 0)) = W'
            intro hall hbel hyy
            have k0 := hall.c0
            have k1 := hall.c1
            have k2 := hall.c2
            have k3 := hall.c3
            have k4 := hall.c4
            have k5 := hall.c5
            have k6 := hall.c6
            have k7 := hall.c7
            have k8 := hall.c8
            refine bodyPost_ret (v := .agg #[.int .i64 z5, .int .i64 z6, .int .i64 z7, .slice A9 n c9, .slice none 0 0, .slice none 0 0, .int .i64 (9 + (n : Int)), .int .i64 0, .int .i64 0]) (by simp [results, Tryd.results31, go_sem, k0, k1, k2, k3, k4, k5, k6, k7, k8]) rfl ⟨hbel, .inr ⟨HD.out, by rw [HND.out, HLEN.out]; omega, A9, n, c9, ?_, by rw [HND.out]; exact hyy, fun b o s e => Nat.le_of_lt (HA9.out b o s e)⟩⟩
            rw [hnn.out.1, hnn.out.2.1, hnn.out.2.2, HND.out]
            rfl
        · have hc9' : ¬ (9 : Int) = cap := by omega
          have hslw : Sl w (some ⟨b, o + 9, none⟩) n (((xs.drop 9).take n).map (Value.int .u8)) := (ByR.cut (g := w.heap.size) (i := 9) (n := n) ⟨HXW.out, fun _ b1 o1 s1 e1 => by simp only [Option.some.injEq, Addr.mk.injEq] at e1; omega⟩ (by omega)).sl.sl
          have HSA := Lib.hid (show Sl (((w.alloc (.cells #[.int .i64 0, .int .i64 0, .int .i64 0, .slice none 0 0, .slice none 0 0, .slice none 0 0, .int .i64 0, .int .i64 0, .int .i64 0] 62)).alloc (.cells #[] 5)).drew) (some ⟨b, o + 9, none⟩) n (((xs.drop 9).take n).map (Value.int .u8)) from hslw.below ((Below.box w _).trans (HBA.out.mono (by simp))))
          have HSB := Lib.hid (show Sl ((((w.alloc (.cells #[.int .i64 0, .int .i64 0, .int .i64 0, .slice none 0 0, .slice none 0 0, .slice none 0 0, .int .i64 0, .int .i64 0, .int .i64 0] 62)).alloc (.cells #[] 5)).alloc (.cells #[.int .i64 0, .int .i64 0, .int .i64 0, .slice none 0 0, .slice none 0 0, .slice none 0 0] 26)).drew) (some ⟨b, o + 9, none⟩) n (((xs.drop 9).take n).map (Value.int .u8)) from hslw.below ((Below.box w _).trans (HBB.out.mono (by simp))))
          have HSC := Lib.hid (show Sl ((((w.alloc (.cells #[.int .i64 0, .int .i64 0, .int .i64 0, .slice none 0 0, .slice none 0 0, .slice none 0 0, .int .i64 0, .int .i64 0, .int .i64 0] 62)).alloc (.cells #[.int .i64 0, .int .i64 0, .int .i64 0, .slice none 0 0, .slice none 0 0, .slice none 0 0] 26)).alloc (.cells #[] 5)).drew) (some ⟨b, o + 9, none⟩) n (((xs.drop 9).take n).map (Value.int .u8)) from hslw.below ((Below.box w _).trans (HBC.out.mono (by simp))))
          clear hslw
          go_region_held3 (fun W => W.cell? ⟨b, o + 5, none⟩ = some (.int .u8 z5) ∧ W.cell? ⟨b, o + 6, none⟩ = some (.int .u8 z6) ∧ W.cell? ⟨b, o + 7, none⟩ = some (.int .u8 z7))
            (first
              | with_reducible exact HS0.out
              | with_reducible exact HKA.out
              | with_reducible exact HKB.out
              | with_reducible exact HKC.out
              | with_reducible exact HKZ.out
              | with_reducible exact HS9.out
              | with_reducible exact k3_below (set6_below (Below.refl w.heap.size w9) hpge _ _ _ _ _ _) hbw hbw hbw HS9.out
              | with_reducible exact k3_below ((Below.refl w.heap.size w9).alloc hs9 _) hbw hbw hbw HS9.out
              | with_reducible exact k3_below (((Below.refl w.heap.size w9).alloc hs9 _).drew) hbw hbw hbw HS9.out
              | fail)
            (first
              | ((with_reducible change if _ then Oper.wp _ _ _ (((w.alloc (.cells #[.int .i64 0, .int .i64 0, .int .i64 0, .slice none 0 0, .slice none 0 0, .slice none 0 0, .int .i64 0, .int .i64 0, .int .i64 0] 62)).alloc (.cells #[] 5)).drew) _ _ else _); refine step_ap' (w := ((w.alloc (.cells #[.int .i64 0, .int .i64 0, .int .i64 0, .slice none 0 0, .slice none 0 0, .slice none 0 0, .int .i64 0, .int .i64 0, .int .i64 0] 62)).alloc (.cells #[] 5)).drew) rfl (.tmp 96) (.tmp 100) 22 rfl (w.heap.size + 1) 5 i0 _ 1 Tryd.underlying22 hi0 hz0 hz1 hz2 rfl (.slice (some ⟨w.heap.size + 1, 0, none⟩) 0 0) 0 [] rfl HOA.out ⟨b, o + 9, none⟩ n (cap - 9) (((xs.drop 9).take n).map (Value.int .u8)) rfl HSA.out (one_cell _) (by simp only [maxLen]; omega) (by omega) (by simp) n (((xs.drop 9).take n).map (Value.int .u8)) (by omega) (by simp) ?_; intro A9 c9 w9 ho9 hb9 hg9 hat9; have HT9 := Lib.hid hat9; clear hat9; have HN9 := Lib.hid (show NB w9 w.heap.size (.int .i64 0) (.int .i64 0) (.int .i64 0) (.slice none 0 0) (.slice none 0 0) (.slice none 0 0) (.int .i64 0) (.int .i64 0) (.int .i64 0) from (hb9.block _ (by omega)).trans (HNB.out.keep HEA.out)); have HW9 := Lib.hid (show Below w.heap.size w w9 from ((Below.box w _).trans (HBA.out.mono (by simp))).trans (hb9.mono (by omega))); have HY9 := Lib.hid (show BySl w9 A9 n c9 ((xs.drop 9).take n) from BySl.of_own ho9 (isB_cut HB8.out 9 n)); have HU9 := Lib.hid (show ∀ b o s, A9 = some ⟨b, o, s⟩ → w.heap.size < b from own_far ho9); have HS9 := Lib.hid (k3_below hb9 hbw1 hbw1 hbw1 HKA.out); have hs9 : w.heap.size ≤ w9.heap.size := (by have := hb9.size; simp at this; omega))
              | ((with_reducible change if _ then Oper.wp _ _ _ ((((w.alloc (.cells #[.int .i64 0, .int .i64 0, .int .i64 0, .slice none 0 0, .slice none 0 0, .slice none 0 0, .int .i64 0, .int .i64 0, .int .i64 0] 62)).alloc (.cells #[] 5)).alloc (.cells #[.int .i64 0, .int .i64 0, .int .i64 0, .slice none 0 0, .slice none 0 0, .slice none 0 0] 26)).drew) _ _ else _); refine step_ap' (w := (((w.alloc (.cells #[.int .i64 0, .int .i64 0, .int .i64 0, .slice none 0 0, .slice none 0 0, .slice none 0 0, .int .i64 0, .int .i64 0, .int .i64 0] 62)).alloc (.cells #[] 5)).alloc (.cells #[.int .i64 0, .int .i64 0, .int .i64 0, .slice none 0 0, .slice none 0 0, .slice none 0 0] 26)).drew) rfl (.tmp 96) (.tmp 100) 22 rfl (w.heap.size + 1) 5 i0 _ 1 Tryd.underlying22 hi0 hz0 hz1 hz2 rfl (.slice (some ⟨w.heap.size + 1, 0, none⟩) 0 0) 0 [] rfl HOB.out ⟨b, o + 9, none⟩ n (cap - 9) (((xs.drop 9).take n).map (Value.int .u8)) rfl HSB.out (one_cell _) (by simp only [maxLen]; omega) (by omega) (by simp) n (((xs.drop 9).take n).map (Value.int .u8)) (by omega) (by simp) ?_; intro A9 c9 w9 ho9 hb9 hg9 hat9; have HT9 := Lib.hid hat9; clear hat9; have HN9 := Lib.hid (show NB w9 w.heap.size (.int .i64 0) (.int .i64 0) (.int .i64 0) (.slice none 0 0) (.slice none 0 0) (.slice none 0 0) (.int .i64 0) (.int .i64 0) (.int .i64 0) from (hb9.block _ (by omega)).trans (HNB.out.keep HEB.out)); have HW9 := Lib.hid (show Below w.heap.size w w9 from ((Below.box w _).trans (HBB.out.mono (by simp))).trans (hb9.mono (by omega))); have HY9 := Lib.hid (show BySl w9 A9 n c9 ((xs.drop 9).take n) from BySl.of_own ho9 (isB_cut HB8.out 9 n)); have HU9 := Lib.hid (show ∀ b o s, A9 = some ⟨b, o, s⟩ → w.heap.size < b from own_far ho9); have HS9 := Lib.hid (k3_below hb9 hbw1 hbw1 hbw1 HKB.out); have hs9 : w.heap.size ≤ w9.heap.size := (by have := hb9.size; simp at this; omega); have HP9 := Lib.hid (show PB w9 (w.heap.size + 1 + 1) (.int .i64 0) (.int .i64 0) (.int .i64 0) (.slice none 0 0) (.slice none 0 0) (.slice none 0 0) from (hg9.block _ (by simp) (by simp [Value.ownBlock])).trans HPB.out); have hpge : w.heap.size ≤ w.heap.size + 1 + 1 := (by omega); have u0 := HP9.out.c0; have u1 := HP9.out.c1; have u2 := HP9.out.c2; have u3 := HP9.out.c3; have u4 := HP9.out.c4; have u5 := HP9.out.c5; have f0 := HP9.out.fr 0; have f1 := HP9.out.fr 1; have f2 := HP9.out.fr 2; have f3 := HP9.out.fr 3; have f4 := HP9.out.fr 4; have f5 := HP9.out.fr 5)
              | ((with_reducible change if _ then Oper.wp _ _ _ ((((w.alloc (.cells #[.int .i64 0, .int .i64 0, .int .i64 0, .slice none 0 0, .slice none 0 0, .slice none 0 0, .int .i64 0, .int .i64 0, .int .i64 0] 62)).alloc (.cells #[.int .i64 0, .int .i64 0, .int .i64 0, .slice none 0 0, .slice none 0 0, .slice none 0 0] 26)).alloc (.cells #[] 5)).drew) _ _ else _); refine step_ap' (w := (((w.alloc (.cells #[.int .i64 0, .int .i64 0, .int .i64 0, .slice none 0 0, .slice none 0 0, .slice none 0 0, .int .i64 0, .int .i64 0, .int .i64 0] 62)).alloc (.cells #[.int .i64 0, .int .i64 0, .int .i64 0, .slice none 0 0, .slice none 0 0, .slice none 0 0] 26)).alloc (.cells #[] 5)).drew) rfl (.tmp 96) (.tmp 100) 22 rfl (w.heap.size + 1) 5 i0 _ 1 Tryd.underlying22 hi0 hz0 hz1 hz2 rfl (.slice (some ⟨w.heap.size + 1 + 1, 0, none⟩) 0 0) 0 [] rfl HOC.out ⟨b, o + 9, none⟩ n (cap - 9) (((xs.drop 9).take n).map (Value.int .u8)) rfl HSC.out (one_cell _) (by simp only [maxLen]; omega) (by omega) (by simp) n (((xs.drop 9).take n).map (Value.int .u8)) (by omega) (by simp) ?_; intro A9 c9 w9 ho9 hb9 hg9 hat9; have HT9 := Lib.hid hat9; clear hat9; have HN9 := Lib.hid (show NB w9 w.heap.size (.int .i64 0) (.int .i64 0) (.int .i64 0) (.slice none 0 0) (.slice none 0 0) (.slice none 0 0) (.int .i64 0) (.int .i64 0) (.int .i64 0) from (hb9.block _ (by omega)).trans (HNB.out.keep HEC.out)); have HW9 := Lib.hid (show Below w.heap.size w w9 from ((Below.box w _).trans (HBC.out.mono (by simp))).trans (hb9.mono (by omega))); have HY9 := Lib.hid (show BySl w9 A9 n c9 ((xs.drop 9).take n) from BySl.of_own ho9 (isB_cut HB8.out 9 n)); have HU9 := Lib.hid (show ∀ b o s, A9 = some ⟨b, o, s⟩ → w.heap.size < b from own_far ho9); have HS9 := Lib.hid (k3_below hb9 hbw1 hbw1 hbw1 HKC.out); have hs9 : w.heap.size ≤ w9.heap.size := (by have := hb9.size; simp at this; omega); have HP9 := Lib.hid (show PB w9 (w.heap.size + 1) (.int .i64 0) (.int .i64 0) (.int .i64 0) (.slice none 0 0) (.slice none 0 0) (.slice none 0 0) from (hg9.block _ (by simp) (by simp [Value.ownBlock])).trans HPC.out); have hpge : w.heap.size ≤ w.heap.size + 1 := (by omega); have u0 := HP9.out.c0; have u1 := HP9.out.c1; have u2 := HP9.out.c2; have u3 := HP9.out.c3; have u4 := HP9.out.c4; have u5 := HP9.out.c5; have f0 := HP9.out.fr 0; have f1 := HP9.out.fr 1; have f2 := HP9.out.fr 2; have f3 := HP9.out.fr 3; have f4 := HP9.out.fr 4; have f5 := HP9.out.fr 5))
          · have hPU : PB (w9.alloc (.cells #[.int .i64 z5, .int .i64 z6, .int .i64 z7, .slice A9 n c9, .slice none 0 0, .slice none 0 0] 26)) (w9.heap.size) (.int .i64 z5) (.int .i64 z6) (.int .i64 z7) (.slice A9 n c9) (.slice none 0 0) (.slice none 0 0) := heap_alloc_new w9 _
            have hNU : NB (w9.alloc (.cells #[.int .i64 z5, .int .i64 z6, .int .i64 z7, .slice A9 n c9, .slice none 0 0, .slice none 0 0] 26)) w.heap.size (.int .i64 0) (.int .i64 0) (.int .i64 0) (.slice none 0 0) (.slice none 0 0) (.slice none 0 0) (.int .i64 0) (.int .i64 0) (.int .i64 0) := HN9.out.keep (Below.box w9 _)
            have hBU : Below w.heap.size w (w9.alloc (.cells #[.int .i64 z5, .int .i64 z6, .int .i64 z7, .slice A9 n c9, .slice none 0 0, .slice none 0 0] 26)) := HW9.out.alloc hs9 _
            have hYU : BySl (w9.alloc (.cells #[.int .i64 z5, .int .i64 z6, .int .i64 z7, .slice A9 n c9, .slice none 0 0, .slice none 0 0] 26)) A9 n c9 ((xs.drop 9).take n) := HY9.out.below (Below.box w9 _)
            have HA9 := HU9
            clear HB8 HS9 HT9 HN9 HW9 HY9 HU9 ho9 hb9 hg9 hs9 HOA HOB HOC HKA HKB HKC HKZ HS0 HSA HSB HSC HBA HBB HBC HEA HEB HEC HPB HPC HNB HCE
            clear k5 k6 k7 cz
            try clear hHeld
            revert hPU hNU hBU hYU
            generalize w9.alloc (.cells #[.int .i64 z5, .int .i64 z6, .int .i64 z7, .slice A9 n c9, .slice none 0 0, .slice none 0 0] 26) = U
            intro hPU hNU hBU hYU
            have q0 := hPU.c0
            have q1 := hPU.c1
            have q2 := hPU.c2
            have q3 := hPU.c3
            have q4 := hPU.c4
            have q5 := hPU.c5
            have r0 := hNU.c0
            have r1 := hNU.c1
            have r2 := hNU.c2
            have r3 := hNU.c3
            have r4 := hNU.c4
            have r5 := hNU.c5
            have r6 := hNU.c6
            have r7 := hNU.c7
            have r8 := hNU.c8
            have rf := hNU.fr
            have HNU := Lib.hid hNU
            have HBU := Lib.hid hBU
            have HYU := Lib.hid hYU
            clear hPU hNU hBU hYU
            go_wp2
            have hall := NB.all HNU.out (.int .i64 z5) (.int .i64 z6) (.int .i64 z7) (.slice A9 n c9) (.slice none 0 0) (.slice none 0 0) (.int .i64 (9 + (n : Int))) (.int .i64 0) (.int .i64 0)
            have hbel := set9_below HBU.out (Nat.le_refl w.heap.size) (.int .i64 z5) (.int .i64 z6) (.int .i64 z7) (.slice A9 n c9) (.slice none 0 0) (.slice none 0 0) (.int .i64 (9 + (n : Int))) (.int .i64 0) (.int .i64 0)
            have hyy := (ByR.rd ⟨HYU.out, fun _ b o s e => Nat.ne_of_gt (HA9.out b o s e)⟩ (rd9 (g := w.heap.size) U (.int .i64 z5) (.int .i64 z6) (.int .i64 z7) (.slice A9 n c9) (.slice none 0 0) (.slice none 0 0) (.int .i64 (9 + (n : Int))) (.int .i64 0) (.int .i64 0))).sl
            clear q0 q1 q2 q3 q4 q5 r0 r1 r2 r3 r4 r5 r6 r7 r8 rf HNU HBU HYU
            revert hall hbel hyy
            generalize (((((((((U.setCell ⟨w.heap.size, 0, none⟩ (.int .i64 z5)).setCell ⟨w.heap.size, 1, none⟩ (.int .i64 z6)).setCell ⟨w.heap.size, 2, none⟩ (.int .i64 z7)).setCell ⟨w.heap.size, 3, none⟩ (.slice A9 n c9)).setCell ⟨w.heap.size, 4, none⟩ (.slice none 0 0)).setCell ⟨w.heap.size, 5, none⟩ (.slice none 0 0)).setCell ⟨w.heap.size, 6, none⟩ (.int .i64 (9 + (n : Int)))).setCell ⟨w.heap.size, 7, none⟩ (.int .i64 0)).setCell ⟨w.heap.size, 8, none⟩ (.int .i64 0)) = W'
            intro hall hbel hyy
            have k0 := hall.c0
            have k1 := hall.c1
            have k2 := hall.c2
            have k3 := hall.c3
            have k4 := hall.c4
            have k5 := hall.c5
            have k6 := hall.c6
            have k7 := hall.c7
            have k8 := hall.c8
            refine bodyPost_ret (v := .agg #[.int .i64 z5, .int .i64 z6, .int .i64 z7, .slice A9 n c9, .slice none 0 0, .slice none 0 0, .int .i64 (9 + (n : Int)), .int .i64 0, .int .i64 0]) (by simp [results, Tryd.results31, go_sem, k0, k1, k2, k3, k4, k5, k6, k7, k8]) rfl ⟨hbel, .inr ⟨HD.out, by rw [HND.out, HLEN.out]; omega, A9, n, c9, ?_, by rw [HND.out]; exact hyy, fun b o s e => Nat.le_of_lt (HA9.out b o s e)⟩⟩
            rw [hnn.out.1, hnn.out.2.1, hnn.out.2.2, HND.out]
            rfl
          · have hPU : PB (((((((w9.setCell ⟨w.heap.size + 1 + 1, 0, none⟩ (.int .i64 z5)).setCell ⟨w.heap.size + 1 + 1, 1, none⟩ (.int .i64 z6)).setCell ⟨w.heap.size + 1 + 1, 2, none⟩ (.int .i64 z7)).setCell ⟨w.heap.size + 1 + 1, 3, none⟩ (.slice A9 n c9)).setCell ⟨w.heap.size + 1 + 1, 4, none⟩ (.slice none 0 0)).setCell ⟨w.heap.size + 1 + 1, 5, none⟩ (.slice none 0 0))) (w.heap.size + 1 + 1) (.int .i64 z5) (.int .i64 z6) (.int .i64 z7) (.slice A9 n c9) (.slice none 0 0) (.slice none 0 0) := ((((((HP9.out.s0 _).s1 _).s2 _).s3 _).s4 _).s5 _)
            have hNU : NB (((((((w9.setCell ⟨w.heap.size + 1 + 1, 0, none⟩ (.int .i64 z5)).setCell ⟨w.heap.size + 1 + 1, 1, none⟩ (.int .i64 z6)).setCell ⟨w.heap.size + 1 + 1, 2, none⟩ (.int .i64 z7)).setCell ⟨w.heap.size + 1 + 1, 3, none⟩ (.slice A9 n c9)).setCell ⟨w.heap.size + 1 + 1, 4, none⟩ (.slice none 0 0)).setCell ⟨w.heap.size + 1 + 1, 5, none⟩ (.slice none 0 0))) w.heap.size (.int .i64 0) (.int .i64 0) (.int .i64 0) (.slice none 0 0) (.slice none 0 0) (.slice none 0 0) (.int .i64 0) (.int .i64 0) (.int .i64 0) := ((rd6 (g := w.heap.size + 1 + 1) w9 (.int .i64 z5) (.int .i64 z6) (.int .i64 z7) (.slice A9 n c9) (.slice none 0 0) (.slice none 0 0)).block _ HN9.out.lt (by omega)).trans HN9.out
            have hBU : Below w.heap.size w (((((((w9.setCell ⟨w.heap.size + 1 + 1, 0, none⟩ (.int .i64 z5)).setCell ⟨w.heap.size + 1 + 1, 1, none⟩ (.int .i64 z6)).setCell ⟨w.heap.size + 1 + 1, 2, none⟩ (.int .i64 z7)).setCell ⟨w.heap.size + 1 + 1, 3, none⟩ (.slice A9 n c9)).setCell ⟨w.heap.size + 1 + 1, 4, none⟩ (.slice none 0 0)).setCell ⟨w.heap.size + 1 + 1, 5, none⟩ (.slice none 0 0))) := set6_below HW9.out hpge _ _ _ _ _ _
            have hYU : BySl (((((((w9.setCell ⟨w.heap.size + 1 + 1, 0, none⟩ (.int .i64 z5)).setCell ⟨w.heap.size + 1 + 1, 1, none⟩ (.int .i64 z6)).setCell ⟨w.heap.size + 1 + 1, 2, none⟩ (.int .i64 z7)).setCell ⟨w.heap.size + 1 + 1, 3, none⟩ (.slice A9 n c9)).setCell ⟨w.heap.size + 1 + 1, 4, none⟩ (.slice none 0 0)).setCell ⟨w.heap.size + 1 + 1, 5, none⟩ (.slice none 0 0))) A9 n c9 ((xs.drop 9).take n) := (ByR.rd ⟨HY9.out, fun _ b o s e => by subst e; rcases HT9.out with h | h <;> simp [Value.ownBlock] at h <;> omega⟩ (rd6 (g := w.heap.size + 1 + 1) w9 (.int .i64 z5) (.int .i64 z6) (.int .i64 z7) (.slice A9 n c9) (.slice none 0 0) (.slice none 0 0))).sl
            have HA9 := HU9
            clear HB8 HS9 HT9 HN9 HW9 HY9 HU9 ho9 hb9 hg9 hs9 HOA HOB HOC HKA HKB HKC HKZ HS0 HSA HSB HSC HBA HBB HBC HEA HEB HEC HPB HPC HNB HCE HP9 hpge u0 u1 u2 u3 u4 u5 f0 f1 f2 f3 f4 f5
            clear k5 k6 k7 cz
            try clear hHeld
            revert hPU hNU hBU hYU
            generalize ((((((w9.setCell ⟨w.heap.size + 1 + 1, 0, none⟩ (.int .i64 z5)).setCell ⟨w.heap.size + 1 + 1, 1, none⟩ (.int .i64 z6)).setCell ⟨w.heap.size + 1 + 1, 2, none⟩ (.int .i64 z7)).setCell ⟨w.heap.size + 1 + 1, 3, none⟩ (.slice A9 n c9)).setCell ⟨w.heap.size + 1 + 1, 4, none⟩ (.slice none 0 0)).setCell ⟨w.heap.size + 1 + 1, 5, none⟩ (.slice none 0 0)) = U
            intro hPU hNU hBU hYU
            have q0 := hPU.c0
            have q1 := hPU.c1
            have q2 := hPU.c2
            have q3 := hPU.c3
            have q4 := hPU.c4
            have q5 := hPU.c5
            have r0 := hNU.c0
            have r1 := hNU.c1
            have r2 := hNU.c2
            have r3 := hNU.c3
            have r4 := hNU.c4
            have r5 := hNU.c5
            have r6 := hNU.c6
            have r7 := hNU.c7
            have r8 := hNU.c8
            have rf := hNU.fr
            have HNU := Lib.hid hNU
            have HBU := Lib.hid hBU
            have HYU := Lib.hid hYU
            clear hPU hNU hBU hYU
            go_wp2
            have hall := NB.all HNU.out (.int .i64 z5) (.int .i64 z6) (.int .i64 z7) (.slice A9 n c9) (.slice none 0 0) (.slice none 0 0) (.int .i64 (9 + (n : Int))) (.int .i64 0) (.int .i64 0)
            have hbel := set9_below HBU.out (Nat.le_refl w.heap.size) (.int .i64 z5) (.int .i64 z6) (.int .i64 z7) (.slice A9 n c9) (.slice none 0 0) (.slice none 0 0) (.int .i64 (9 + (n : Int))) (.int .i64 0) (.int .i64 0)
            have hyy := (ByR.rd ⟨HYU.out, fun _ b o s e => Nat.ne_of_gt (HA9.out b o s e)⟩ (rd9 (g := w.heap.size) U (.int .i64 z5) (.int .i64 z6) (.int .i64 z7) (.slice A9 n c9) (.slice none 0 0) (.slice none 0 0) (.int .i64 (9 + (n : Int))) (.int .i64 0) (.int .i64 0))).sl
            clear q0 q1 q2 q3 q4 q5 r0 r1 r2 r3 r4 r5 r6 r7 r8 rf HNU HBU HYU
            revert hall hbel hyy
            generalize (((((((((U.setCell ⟨w.heap.size, 0, none⟩ (.int .i64 z5)).setCell ⟨w.heap.size, 1, none⟩ (.int .i64 z6)).setCell ⟨w.heap.size, 2, none⟩ (.int .i64 z7)).setCell ⟨w.heap.size, 3, none⟩ (.slice A9 n c9)).setCell ⟨w.heap.size, 4, none⟩ (.slice none 0 0)).setCell ⟨w.heap.size, 5, none⟩ (.slice none 0 0)).setCell ⟨w.heap.size, 6, none⟩ (.int .i64 (9 + (n : Int)))).setCell ⟨w.heap.size, 7, none⟩ (.int .i64 0)).setCell ⟨w.heap.size, 8, none⟩ (.int .i64 0)) = W'
            intro hall hbel hyy
            have k0 := hall.c0
            have k1 := hall.c1
            have k2 := hall.c2
            have k3 := hall.c3
            have k4 := hall.c4
            have k5 := hall.c5
            have k6 := hall.c6
            have k7 := hall.c7
            have k8 := hall.c8
            refine bodyPost_ret (v := .agg #[.int .i64 z5, .int .i64 z6, .int .i64 z7, .slice A9 n c9, .slice none 0 0, .slice none 0 0, .int .i64 (9 + (n : Int)), .int .i64 0, .int .i64 0]) (by simp [results, Tryd.results31, go_sem, k0, k1, k2, k3, k4, k5, k6, k7, k8]) rfl ⟨hbel, .inr ⟨HD.out, by rw [HND.out, HLEN.out]; omega, A9, n, c9, ?_, by rw [HND.out]; exact hyy, fun b o s e => Nat.le_of_lt (HA9.out b o s e)⟩⟩
            rw [hnn.out.1, hnn.out.2.1, hnn.out.2.2, HND.out]
            rfl
          · have hPU : PB (((((((w9.setCell ⟨w.heap.size + 1, 0, none⟩ (.int .i64 z5)).setCell ⟨w.heap.size + 1, 1, none⟩ (.int .i64 z6)).setCell ⟨w.heap.size + 1, 2, none⟩ (.int .i64 z7)).setCell ⟨w.heap.size + 1, 3, none⟩ (.slice A9 n c9)).setCell ⟨w.heap.size + 1, 4, none⟩ (.slice none 0 0)).setCell ⟨w.heap.size + 1, 5, none⟩ (.slice none 0 0))) (w.heap.size + 1) (.int .i64 z5) (.int .i64 z6) (.int .i64 z7) (.slice A9 n c9) (.slice none 0 0) (.slice none 0 0) := ((((((HP9.out.s0 _).s1 _).s2 _).s3 _).s4 _).s5 _)
            have hNU : NB (((((((w9.setCell ⟨w.heap.size + 1, 0, none⟩ (.int .i64 z5)).setCell ⟨w.heap.size + 1, 1, none⟩ (.int .i64 z6)).setCell ⟨w.heap.size + 1, 2, none⟩ (.int .i64 z7)).setCell ⟨w.heap.size + 1, 3, none⟩ (.slice A9 n c9)).setCell ⟨w.heap.size + 1, 4, none⟩ (.slice none 0 0)).setCell ⟨w.heap.size + 1, 5, none⟩ (.slice none 0 0))) w.heap.size (.int .i64 0) (.int .i64 0) (.int .i64 0) (.slice none 0 0) (.slice none 0 0) (.slice none 0 0) (.int .i64 0) (.int .i64 0) (.int .i64 0) := ((rd6 (g := w.heap.size + 1) w9 (.int .i64 z5) (.int .i64 z6) (.int .i64 z7) (.slice A9 n c9) (.slice none 0 0) (.slice none 0 0)).block _ HN9.out.lt (by omega)).trans HN9.out
            have hBU : Below w.heap.size w (((((((w9.setCell ⟨w.heap.size + 1, 0, none⟩ (.int .i64 z5)).setCell ⟨w.heap.size + 1, 1, none⟩ (.int .i64 z6)).setCell ⟨w.heap.size + 1, 2, none⟩ (.int .i64 z7)).setCell ⟨w.heap.size + 1, 3, none⟩ (.slice A9 n c9)).setCell ⟨w.heap.size + 1, 4, none⟩ (.slice none 0 0)).setCell ⟨w.heap.size + 1, 5, none⟩ (.slice none 0 0))) := set6_below HW9.out hpge _ _ _ _ _ _
            have hYU : BySl (((((((w9.setCell ⟨w.heap.size + 1, 0, none⟩ (.int .i64 z5)).setCell ⟨w.heap.size + 1, 1, none⟩ (.int .i64 z6)).setCell ⟨w.heap.size + 1, 2, none⟩ (.int .i64 z7)).setCell ⟨w.heap.size + 1, 3, none⟩ (.slice A9 n c9)).setCell ⟨w.heap.size + 1, 4, none⟩ (.slice none 0 0)).setCell ⟨w.heap.size + 1, 5, none⟩ (.slice none 0 0))) A9 n c9 ((xs.drop 9).take n) := (ByR.rd ⟨HY9.out, fun _ b o s e => by subst e; rcases HT9.out with h | h <;> simp [Value.ownBlock] at h <;> omega⟩ (rd6 (g := w.heap.size + 1) w9 (.int .i64 z5) (.int .i64 z6) (.int .i64 z7) (.slice A9 n c9) (.slice none 0 0) (.slice none 0 0))).sl
            have HA9 := HU9
            clear HB8 HS9 HT9 HN9 HW9 HY9 HU9 ho9 hb9 hg9 hs9 HOA HOB HOC HKA HKB HKC HKZ HS0 HSA HSB HSC HBA HBB HBC HEA HEB HEC HPB HPC HNB HCE HP9 hpge u0 u1 u2 u3 u4 u5 f0 f1 f2 f3 f4 f5
            clear k5 k6 k7 cz
            try clear hHeld
            revert hPU hNU hBU hYU
            generalize ((((((w9.setCell ⟨w.heap.size + 1, 0, none⟩ (.int .i64 z5)).setCell ⟨w.heap.size + 1, 1, none⟩ (.int .i64 z6)).setCell ⟨w.heap.size + 1, 2, none⟩ (.int .i64 z7)).setCell ⟨w.heap.size + 1, 3, none⟩ (.slice A9 n c9)).setCell ⟨w.heap.size + 1, 4, none⟩ (.slice none 0 0)).setCell ⟨w.heap.size + 1, 5, none⟩ (.slice none 0 0)) = U
            intro hPU hNU hBU hYU
            have q0 := hPU.c0
            have q1 := hPU.c1
            have q2 := hPU.c2
            have q3 := hPU.c3
            have q4 := hPU.c4
            have q5 := hPU.c5
            have r0 := hNU.c0
            have r1 := hNU.c1
            have r2 := hNU.c2
            have r3 := hNU.c3
            have r4 := hNU.c4
            have r5 := hNU.c5
            have r6 := hNU.c6
            have r7 := hNU.c7
            have r8 := hNU.c8
            have rf := hNU.fr
            have HNU := Lib.hid hNU
            have HBU := Lib.hid hBU
            have HYU := Lib.hid hYU
            clear hPU hNU hBU hYU
            go_wp2
            have hall := NB.all HNU.out (.int .i64 z5) (.int .i64 z6) (.int .i64 z7) (.slice A9 n c9) (.slice none 0 0) (.slice none 0 0) (.int .i64 (9 + (n : Int))) (.int .i64 0) (.int .i64 0)
            have hbel := set9_below HBU.out (Nat.le_refl w.heap.size) (.int .i64 z5) (.int .i64 z6) (.int .i64 z7) (.slice A9 n c9) (.slice none 0 0) (.slice none 0 0) (.int .i64 (9 + (n : Int))) (.int .i64 0) (.int .i64 0)
            have hyy := (ByR.rd ⟨HYU.out, fun _ b o s e => Nat.ne_of_gt (HA9.out b o s e)⟩ (rd9 (g := w.heap.size) U (.int .i64 z5) (.int .i64 z6) (.int .i64 z7) (.slice A9 n c9) (.slice none 0 0) (.slice none 0 0) (.int .i64 (9 + (n : Int))) (.int .i64 0) (.int .i64 0))).sl
            clear q0 q1 q2 q3 q4 q5 r0 r1 r2 r3 r4 r5 r6 r7 r8 rf HNU HBU HYU
            revert hall hbel hyy
            generalize (((((((((U.setCell ⟨w.heap.size, 0, none⟩ (.int .i64 z5)).setCell ⟨w.heap.size, 1, none⟩ (.int .i64 z6)).setCell ⟨w.heap.size, 2, none⟩ (.int .i64 z7)).setCell ⟨w.heap.size, 3, none⟩ (.slice A9 n c9)).setCell ⟨w.heap.size, 4, none⟩ (.slice none 0 0)).setCell ⟨w.heap.size, 5, none⟩ (.slice none 0 0)).setCell ⟨w.heap.size, 6, none⟩ (.int .i64 (9 + (n : Int)))).setCell ⟨w.heap.size, 7, none⟩ (.int .i64 0)).setCell ⟨w.heap.size, 8, none⟩ (.int .i64 0)) = W'
            intro hall hbel hyy
            have k0 := hall.c0
            have k1 := hall.c1
            have k2 := hall.c2
            have k3 := hall.c3
            have k4 := hall.c4
            have k5 := hall.c5
            have k6 := hall.c6
            have k7 := hall.c7
            have k8 := hall.c8
            refine bodyPost_ret (v := .agg #[.int .i64 z5, .int .i64 z6, .int .i64 z7, .slice A9 n c9, .slice none 0 0, .slice none 0 0, .int .i64 (9 + (n : Int)), .int .i64 0, .int .i64 0]) (by simp [results, Tryd.results31, go_sem, k0, k1, k2, k3, k4, k5, k6, k7, k8]) rfl ⟨hbel, .inr ⟨HD.out, by rw [HND.out, HLEN.out]; omega, A9, n, c9, ?_, by rw [HND.out]; exact hyy, fun b o s e => Nat.le_of_lt (HA9.out b o s e)⟩⟩
            rw [hnn.out.1, hnn.out.2.1, hnn.out.2.2, HND.out]
            rfl

theorem front_any (A : Option Addr) (len cap : Nat) (xs : List Int) (w : World) (hx : BySl w A len cap xs) : Calls Tryd.prog 31 #[.slice A len cap] w (FrP xs w) := by
  rcases Nat.lt_or_ge len 4 with h | h
  · exact front_short A len cap xs w hx h
  · obtain ⟨b, o, rfl, _, _⟩ := hx.mem (by omega)
    by_cases hl : xs.take 4 = Im.letters
    · exact front_main b o len cap xs w hx h hl
    · exact front_form b o len cap xs w hx h hl
end Go.Proofs.YtjadiijjahjjoaaDoor
