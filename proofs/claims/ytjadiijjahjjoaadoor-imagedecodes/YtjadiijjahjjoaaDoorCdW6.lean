/-
  Get of rows of bytes, and the laws' own examples (awake).
-/
import Derived.Test.YtjadiijjahjjoaaDoorCdW5
import Derived.Laws.BitsAllLaws
namespace Go.Proofs.YtjadiijjahjjoaaDoor
open Go.RowKit

/-- Eight bytes as a number, the highest first. -/
def Cd.val (xs : List Int) : Int := (((((((xs.getD 4 0 * 256 + xs.getD 5 0) * 256 + xs.getD 6 0) * 256 + xs.getD 7 0) * 256 + xs.getD 8 0) * 256 + xs.getD 9 0) * 256 + xs.getD 10 0) * 256 + xs.getD 11 0)
/-- What Get answers of a row of twelve bytes or more. -/
def Cd.gotL (xs : List Int) : Value := Cd.got (xs.getD 0 0) (xs.getD 1 0) (xs.getD 2 0) (xs.getD 3 0) (Cd.val xs)
/-- A row of bytes. -/
def Cd.isB (xs : List Int) : Prop := ∀ i, 0 ≤ xs.getD i 0 ∧ xs.getD i 0 ≤ 255

theorem or_byte (v z : Int) (v0 : 0 ≤ v) (v1 : v < 72057594037927936) (z0 : 0 ≤ z) (z1 : z ≤ 255) :
    bits BinOp.or IntKind.u64 (IntKind.u64.wrap (v * 256)) (IntKind.u64.wrap z) = v * 256 + z := by
  rw [IntKind.wrap_u64, IntKind.wrap_u64, Int.emod_eq_of_lt (by omega) (by omega), Int.emod_eq_of_lt (by omega) (by omega)]
  rw [u64_or _ _ (by omega) (by omega) (by omega) (by omega), Nat.or_comm, nat_join8' _ _ (by omega) (by omega)]
  omega
theorem or_byte0 (z : Int) (z0 : 0 ≤ z) (z1 : z ≤ 255) : bits BinOp.or IntKind.u64 0 (IntKind.u64.wrap z) = z := by
  have := or_byte 0 z (by omega) (by omega) z0 z1
  rw [Int.zero_mul, show IntKind.u64.wrap 0 = 0 from rfl, Int.zero_add] at this
  exact this
theorem add_byte (v z : Int) (v0 : 0 ≤ v) (v1 : v < 72057594037927936) (z0 : 0 ≤ z) (z1 : z ≤ 255) :
    IntKind.u64.wrap (IntKind.u64.wrap (v * 256) + IntKind.u64.wrap z) = v * 256 + z := by
  rw [IntKind.wrap_u64, IntKind.wrap_u64, IntKind.wrap_u64]
  omega
theorem add_byte0 (z : Int) (z0 : 0 ≤ z) (z1 : z ≤ 255) : IntKind.u64.wrap (IntKind.u64.wrap z) = z := by
  rw [IntKind.wrap_u64, IntKind.wrap_u64]
  omega

theorem get_list (b off len cap : Nat) (xs : List Int) (w : World) (ho : Ops w) (hl : 12 ≤ len) (hc : len ≤ cap) (hm : cap ≤ maxLen) (hn : 12 ≤ xs.length) (hx : Byts w ⟨b, off, none⟩ xs) (hB : Cd.isB xs) :
    Calls Tryd.prog 59 #[.slice (some ⟨b, off, none⟩) len cap] w fun e w' => e = .returned (Cd.gotL xs) ∧ Below w.heap.size w w' := by
  have hbl : b < w.heap.size := hx.lt (by omega)
  unfold maxLen at hm
  have i0 := hB 0
  have i1 := hB 1
  have i2 := hB 2
  have i3 := hB 3
  have i4 := hB 4
  have i5 := hB 5
  have i6 := hB 6
  have i7 := hB 7
  have i8 := hB 8
  have i9 := hB 9
  have i10 := hB 10
  have i11 := hB 11
  have c0 := hx.at0 0 (by omega)
  have c1 := hx.at0 1 (by omega)
  have c2 := hx.at0 2 (by omega)
  have c3 := hx.at0 3 (by omega)
  have c4 := hx.at0 4 (by omega)
  have c5 := hx.at0 5 (by omega)
  have c6 := hx.at0 6 (by omega)
  have c7 := hx.at0 7 (by omega)
  have c8 := hx.at0 8 (by omega)
  have c9 := hx.at0 9 (by omega)
  have c10 := hx.at0 10 (by omega)
  have c11 := hx.at0 11 (by omega)
  unfold Cd.gotL Cd.val
  generalize xs.getD 0 0 = z0 at *
  generalize xs.getD 1 0 = z1 at *
  generalize xs.getD 2 0 = z2 at *
  generalize xs.getD 3 0 = z3 at *
  generalize xs.getD 4 0 = z4 at *
  generalize xs.getD 5 0 = z5 at *
  generalize xs.getD 6 0 = z6 at *
  generalize xs.getD 7 0 = z7 at *
  generalize xs.getD 8 0 = z8 at *
  generalize xs.getD 9 0 = z9 at *
  generalize xs.getD 10 0 = z10 at *
  generalize xs.getD 11 0 = z11 at *
  clear hB
  exact get_core b off len cap z0 z1 z2 z3 z4 z5 z6 z7 z8 z9 z10 z11 z4 (z4 * 256 + z5) ((z4 * 256 + z5) * 256 + z6) (((z4 * 256 + z5) * 256 + z6) * 256 + z7) ((((z4 * 256 + z5) * 256 + z6) * 256 + z7) * 256 + z8) (((((z4 * 256 + z5) * 256 + z6) * 256 + z7) * 256 + z8) * 256 + z9) ((((((z4 * 256 + z5) * 256 + z6) * 256 + z7) * 256 + z8) * 256 + z9) * 256 + z10) (((((((z4 * 256 + z5) * 256 + z6) * 256 + z7) * 256 + z8) * 256 + z9) * 256 + z10) * 256 + z11) w ho hl hc (by omega) i0 i1 i2 i3 c0 c1 c2 c3 c4 c5 c6 c7 c8 c9 c10 c11 (or_byte0 _ i4.1 i4.2) (or_byte _ _ (by omega) (by omega) i5.1 i5.2) (or_byte _ _ (by omega) (by omega) i6.1 i6.2) (or_byte _ _ (by omega) (by omega) i7.1 i7.2) (or_byte _ _ (by omega) (by omega) i8.1 i8.2) (or_byte _ _ (by omega) (by omega) i9.1 i9.2) (or_byte _ _ (by omega) (by omega) i10.1 i10.2) (or_byte _ _ (by omega) (by omega) i11.1 i11.2) hbl

theorem raw_list (b off len cap : Nat) (xs : List Int) (w : World) (hl : 12 ≤ len) (hn : 12 ≤ xs.length) (hx : Byts w ⟨b, off, none⟩ xs) (hB : Cd.isB xs) :
    Calls Tryd.prog 52 #[.slice (some ⟨b, off, none⟩) len cap] w fun e w' => e = .returned (.agg #[.int .i64 (xs.getD 0 0), .int .i64 (xs.getD 1 0), .int .i64 (xs.getD 2 0), .int .i64 (xs.getD 3 0), .int .u64 (Cd.val xs)]) ∧ Below w.heap.size w w' := by
  have hbl : b < w.heap.size := hx.lt (by omega)
  have i0 := hB 0
  have i1 := hB 1
  have i2 := hB 2
  have i3 := hB 3
  have i4 := hB 4
  have i5 := hB 5
  have i6 := hB 6
  have i7 := hB 7
  have i8 := hB 8
  have i9 := hB 9
  have i10 := hB 10
  have i11 := hB 11
  have c0 := hx.at0 0 (by omega)
  have c1 := hx.at0 1 (by omega)
  have c2 := hx.at0 2 (by omega)
  have c3 := hx.at0 3 (by omega)
  have c4 := hx.at0 4 (by omega)
  have c5 := hx.at0 5 (by omega)
  have c6 := hx.at0 6 (by omega)
  have c7 := hx.at0 7 (by omega)
  have c8 := hx.at0 8 (by omega)
  have c9 := hx.at0 9 (by omega)
  have c10 := hx.at0 10 (by omega)
  have c11 := hx.at0 11 (by omega)
  unfold Cd.val
  generalize xs.getD 0 0 = z0 at *
  generalize xs.getD 1 0 = z1 at *
  generalize xs.getD 2 0 = z2 at *
  generalize xs.getD 3 0 = z3 at *
  generalize xs.getD 4 0 = z4 at *
  generalize xs.getD 5 0 = z5 at *
  generalize xs.getD 6 0 = z6 at *
  generalize xs.getD 7 0 = z7 at *
  generalize xs.getD 8 0 = z8 at *
  generalize xs.getD 9 0 = z9 at *
  generalize xs.getD 10 0 = z10 at *
  generalize xs.getD 11 0 = z11 at *
  clear hB
  exact raw_core b off len cap z0 z1 z2 z3 z4 z5 z6 z7 z8 z9 z10 z11 z4 (z4 * 256 + z5) ((z4 * 256 + z5) * 256 + z6) (((z4 * 256 + z5) * 256 + z6) * 256 + z7) ((((z4 * 256 + z5) * 256 + z6) * 256 + z7) * 256 + z8) (((((z4 * 256 + z5) * 256 + z6) * 256 + z7) * 256 + z8) * 256 + z9) ((((((z4 * 256 + z5) * 256 + z6) * 256 + z7) * 256 + z8) * 256 + z9) * 256 + z10) (((((((z4 * 256 + z5) * 256 + z6) * 256 + z7) * 256 + z8) * 256 + z9) * 256 + z10) * 256 + z11) w hl i0 i1 i2 i3 c0 c1 c2 c3 c4 c5 c6 c7 c8 c9 c10 c11 (add_byte0 _ i4.1 i4.2) (add_byte _ _ (by omega) (by omega) i5.1 i5.2) (add_byte _ _ (by omega) (by omega) i6.1 i6.2) (add_byte _ _ (by omega) (by omega) i7.1 i7.2) (add_byte _ _ (by omega) (by omega) i8.1 i8.2) (add_byte _ _ (by omega) (by omega) i9.1 i9.2) (add_byte _ _ (by omega) (by omega) i10.1 i10.2) (add_byte _ _ (by omega) (by omega) i11.1 i11.2) hbl

theorem rget_list (b off len cap : Nat) (xs : List Int) (w : World) (hl : 12 ≤ len) (hn : 12 ≤ xs.length) (hx : Byts w ⟨b, off, none⟩ xs) (hB : Cd.isB xs) :
    Calls Tryd.prog 33 #[.slice (some ⟨b, off, none⟩) len cap] w fun e w' => e = .returned (Cd.gotL xs) ∧ Below w.heap.size w w' :=
  rget_core b off len cap _ _ _ _ _ w hl fun W hW => raw_list b off len cap xs W hl hn (hx.below hW (hx.lt (by omega))) hB

/-- What the examples' instruction comes to. -/
theorem bad_ex : Cd.bad 1 1 0 0 5 = -1 := by decide +kernel

end Go.Proofs.YtjadiijjahjjoaaDoor
