/-
  Get of rows of bytes, and the laws' own examples (awake).
-/
import Derived.Test.YthkhadbeomkihaaDoorCdW5
import Derived.Laws.BitsAllLaws
namespace Go.Proofs.YthkhadbeomkihaaDoor
set_option maxRecDepth 100000
open Go.RowKit

/-- Eight bytes as a number, the highest first. -/
def Cd.val (xs : List Int) : Int := (((((((xs.getD 4 0 * 256 + xs.getD 5 0) * 256 + xs.getD 6 0) * 256 + xs.getD 7 0) * 256 + xs.getD 8 0) * 256 + xs.getD 9 0) * 256 + xs.getD 10 0) * 256 + xs.getD 11 0)
/-- What Get answers of a row of twelve bytes or more. -/
def Cd.gotL (xs : List Int) : Value := Cd.got (xs.getD 0 0) (xs.getD 1 0) (xs.getD 2 0) (xs.getD 3 0) (Cd.val xs)
/-- A row of bytes. -/
def Cd.isB (xs : List Int) : Prop := ∀ i, 0 ≤ xs.getD i 0 ∧ xs.getD i 0 ≤ 255

theorem or_byte (v z : Int) (v0 : 0 ≤ v) (v1 : v < 72057594037927936) (z0 : 0 ≤ z) (z1 : z ≤ 255) :
    bits BinOp.or IntKind.u64 (IntKind.u64.wrap (v * 256)) (IntKind.u64.wrap z) = v * 256 + z := by
  rw [IntKind.wrap_u64, IntKind.wrap_u64, Int.emod_eq_of_lt (by omega) (by omega), Int.emod_eq_of_lt (by omega) (by omega)]
  rw [u64_or _ _ (by omega) (by omega) (by omega) (by omega), Nat.or_comm, nat_join8' _ _ (by omega) (by omega)]
  omega
theorem or_byte0 (z : Int) (z0 : 0 ≤ z) (z1 : z ≤ 255) : bits BinOp.or IntKind.u64 0 (IntKind.u64.wrap z) = z := by
  have := or_byte 0 z (by omega) (by omega) z0 z1
  rw [Int.zero_mul, show IntKind.u64.wrap 0 = 0 from rfl, Int.zero_add] at this
  exact this
theorem add_byte (v z : Int) (v0 : 0 ≤ v) (v1 : v < 72057594037927936) (z0 : 0 ≤ z) (z1 : z ≤ 255) :
    IntKind.u64.wrap (IntKind.u64.wrap (v * 256) + IntKind.u64.wrap z) = v * 256 + z := by
  rw [IntKind.wrap_u64, IntKind.wrap_u64, IntKind.wrap_u64]
  omega
theorem add_byte0 (z : Int) (z0 : 0 ≤ z) (z1 : z ≤ 255) : IntKind.u64.wrap (IntKind.u64.wrap z) = z := by
  rw [IntKind.wrap_u64, IntKind.wrap_u64]
  omega

/-- What the examples' instruction comes to. -/
theorem bad_ex : Cd.bad 1 1 0 0 5 = -1 := by decide +kernel

end Go.Proofs.YthkhadbeomkihaaDoor
