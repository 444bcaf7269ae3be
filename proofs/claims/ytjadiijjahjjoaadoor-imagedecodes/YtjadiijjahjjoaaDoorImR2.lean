/-
  The contract of number.
-/
import Derived.Test.YtjadiijjahjjoaaDoorImR1
namespace Go.Proofs.YtjadiijjahjjoaaDoor
open Go.RowKit
attribute [local go_sem ↓] Go.wp_at_zero Go.wp_at_succ

theorem i64_or_small (x y : Int) (x0 : 0 ≤ x) (x1 : x < 65536) (y0 : 0 ≤ y) (y1 : y < 65536) : bits BinOp.or IntKind.i64 x y = ((x.toNat ||| y.toNat : Nat) : Int) := by
  have h : IntKind.u64.wrap ((BitVec.ofInt 64 x ||| BitVec.ofInt 64 y).toNat : Int) = _ := u64_or x y x0 (by omega) y0 (by omega)
  have hlt : x.toNat ||| y.toNat < 2 ^ 16 := Nat.or_lt_two_pow (by omega) (by omega)
  show IntKind.i64.wrap ((BitVec.ofInt 64 x ||| BitVec.ofInt 64 y).toNat : Int) = _
  rw [IntKind.wrap_u64] at h
  have hb := (BitVec.ofInt 64 x ||| BitVec.ofInt 64 y).isLt
  rw [Int.emod_eq_of_lt (by omega) (by omega)] at h
  rw [h, IntKind.wrap_i64]
  omega
theorem i64_or_byte (v z : Int) (v0 : 0 ≤ v) (v1 : v ≤ 255) (z0 : 0 ≤ z) (z1 : z ≤ 255) : bits BinOp.or IntKind.i64 (v * 256) z = v * 256 + z := by
  rw [i64_or_small _ _ (by omega) (by omega) (by omega) (by omega), Nat.or_comm, nat_join8' _ _ (by omega) (by omega)]
  omega

set_option maxHeartbeats 800000 in
theorem number_short (g : Nat) (A : Option Addr) (len cap i k : Nat) (lo hi : Int) (w : World) (hb : RB w g A len cap i) (hl : len ≤ 9223372036854775807) (hil : i ≤ len) (hk : k ≤ 100000) (hs : len < i + k) :
    Calls Tryd.prog 45 #[.pointer (some ⟨g, 0, none⟩), .int .i64 k, .int .i64 lo, .int .i64 hi] w fun e w' => e = flt 1 len ∧ Rd g w w' := by
  have c1 := hb.c1
  have HP := Lib.hid (part_short g A len cap i k w hb hl hil hk hs)
  clear hb hs
  go_enter Tryd.func45, Tryd.ntmps45
  go_wp2_with fail
  refine HP.out.mono ?_
  rintro e v ⟨rfl, hr⟩
  exact ⟨rfl, rfl, hr⟩

set_option maxHeartbeats 800000 in
theorem number_one (g b o len cap i : Nat) (lo hi : Int) (xs : List Int) (w : World) (hb : RB w g (some ⟨b, o, none⟩) len cap i) (hx : ByR g w (some ⟨b, o, none⟩) len cap xs) (hc : cap ≤ 9223372036854775807) (hs : i + 1 ≤ len) :
    Calls Tryd.prog 45 #[.pointer (some ⟨g, 0, none⟩), .int .i64 1, .int .i64 lo, .int .i64 hi] w fun e w' =>
      (¬ (lo ≤ xs.getD i 0 ∧ xs.getD i 0 ≤ hi) ∧ e = flt 3 i ∧ Rd g w w') ∨ ((lo ≤ xs.getD i 0 ∧ xs.getD i 0 ≤ hi) ∧ e = .returned (.int .i64 (xs.getD i 0)) ∧ RB w' g (some ⟨b, o, none⟩) len cap ((i : Int) + 1) ∧ Rd g w w') := by
  have c1 := hb.c1
  have hz := hx.sl.isB i
  have HP := Lib.hid (part_ok g b o len cap i 1 xs w hb hx hc hs)
  have hzz : ∃ z, xs.getD i 0 = z := ⟨_, rfl⟩
  obtain ⟨z, hzz⟩ := hzz
  have HZ := Lib.hid hzz
  rw [hzz] at hz ⊢
  clear hzz hb hx
  obtain ⟨z0, z1⟩ := hz
  go_enter Tryd.func45, Tryd.ntmps45
  go_wp2_with fail
  refine HP.out.mono ?_
  rintro e v ⟨A', cap', rfl, hx, hb, hr, _⟩
  obtain ⟨b', o', rfl, hlt, hby⟩ := hx.sl.mem (by omega)
  have d0 : v.cell? ⟨b', o', none⟩ = some (.int .u8 z) := by
    have := hby.at0 0 (by rw [hx.sl.hlen]; omega)
    rwa [Nat.add_zero, getD_cut (by omega), Nat.add_zero, HZ.out] at this
  have HB := Lib.hid hb
  have HR := Lib.hid hr
  have e1 : IntKind.i64.wrap z = z := by rw [IntKind.wrap_i64]; omega
  have e2 : bits BinOp.or IntKind.i64 0 z = z := by
    have := i64_or_byte 0 z (by omega) (by omega) z0 z1
    rwa [Int.zero_mul, Int.zero_add] at this
  clear hx hb hr hby
  go_wp2
  refine wp_loop_rounds 2 ?_
  rw [rounds_succ]; go_wp2
  rw [rounds_succ]; go_wp2_with (go_at_call 37; refine (within_any _ _ _ _).mono ?_; rintro e w' ⟨rfl, rfl⟩)
  · refine ⟨rfl, .inl ⟨?_, rfl, HR.out⟩⟩
    have h : (!decide (lo ≤ z)) = true ∨ (!decide (z ≤ hi)) = true := by assumption
    simp at h
    omega
  · go_ret
    refine .inr ⟨?_, rfl, HB.out, HR.out⟩
    simp_all

set_option maxHeartbeats 800000 in
theorem number_two (g b o len cap i : Nat) (lo hi z : Int) (xs : List Int) (w : World) (hb : RB w g (some ⟨b, o, none⟩) len cap i) (hx : ByR g w (some ⟨b, o, none⟩) len cap xs) (hc : cap ≤ 9223372036854775807) (hs : i + 2 ≤ len) (hz : xs.getD i 0 * 256 + xs.getD (i + 1) 0 = z) :
    Calls Tryd.prog 45 #[.pointer (some ⟨g, 0, none⟩), .int .i64 2, .int .i64 lo, .int .i64 hi] w fun e w' =>
      (¬ (lo ≤ z ∧ z ≤ hi) ∧ e = flt 3 i ∧ Rd g w w') ∨ ((lo ≤ z ∧ z ≤ hi) ∧ e = .returned (.int .i64 z) ∧ RB w' g (some ⟨b, o, none⟩) len cap ((i : Int) + 2) ∧ Rd g w w') := by
  have c1 := hb.c1
  have hz0 := hx.sl.isB i
  have hz1 := hx.sl.isB (i + 1)
  have HP := Lib.hid (part_ok g b o len cap i 2 xs w hb hx hc hs)
  have hzz : ∃ y0 y1, xs.getD i 0 = y0 ∧ xs.getD (i + 1) 0 = y1 := ⟨_, _, rfl, rfl⟩
  obtain ⟨y0, y1, hy0, hy1⟩ := hzz
  have HY0 := Lib.hid hy0
  have HY1 := Lib.hid hy1
  rw [hy0] at hz0 hz
  rw [hy1] at hz1 hz
  clear hy0 hy1 hb hx
  have e1 : IntKind.i64.wrap y0 = y0 := by rw [IntKind.wrap_i64]; omega
  have e2 : bits BinOp.or IntKind.i64 0 y0 = y0 := by
    have := i64_or_byte 0 y0 (by omega) (by omega) hz0.1 hz0.2
    rwa [Int.zero_mul, Int.zero_add] at this
  have e4 : IntKind.i64.wrap y1 = y1 := by rw [IntKind.wrap_i64]; omega
  have e5 : bits BinOp.or IntKind.i64 (y0 * 256) y1 = z := (i64_or_byte y0 y1 hz0.1 hz0.2 hz1.1 hz1.2).trans hz
  have e3 : IntKind.i64.wrap (y0 * 256) = y0 * 256 := by rw [IntKind.wrap_i64]; omega
  have HZZ := Lib.hid hz
  clear hz
  go_enter Tryd.func45, Tryd.ntmps45
  go_wp2_with fail
  refine HP.out.mono ?_
  rintro e v ⟨A', cap', rfl, hx, hb, hr, _⟩
  obtain ⟨b', o', rfl, hlt, hby⟩ := hx.sl.mem (by omega)
  have d0 : v.cell? ⟨b', o', none⟩ = some (.int .u8 y0) := by
    have := hby.at0 0 (by rw [hx.sl.hlen]; omega)
    rwa [Nat.add_zero, getD_cut (by omega), Nat.add_zero, HY0.out] at this
  have d1 : v.cell? ⟨b', o' + 1, none⟩ = some (.int .u8 y1) := by
    have := hby.at0 1 (by rw [hx.sl.hlen]; omega)
    rwa [getD_cut (by omega), HY1.out] at this
  have HB := Lib.hid hb
  have HR := Lib.hid hr
  clear hx hb hr hby
  go_wp2
  refine wp_loop_rounds 3 ?_
  rw [rounds_succ]; go_wp2
  rw [rounds_succ]; go_wp2
  rw [rounds_succ]; go_wp2_with (go_at_call 37; refine (within_any _ _ _ _).mono ?_; rintro e w' ⟨rfl, rfl⟩)
  · refine ⟨rfl, .inl ⟨?_, rfl, HR.out⟩⟩
    have h : (!decide (lo ≤ z)) = true ∨ (!decide (z ≤ hi)) = true := by assumption
    simp at h
    omega
  · go_ret
    refine .inr ⟨?_, rfl, HB.out, HR.out⟩
    simp_all

/-- A number of one byte or two. -/
def Im.num (xs : List Int) (i k : Nat) : Int := if k = 1 then xs.getD i 0 else xs.getD i 0 * 256 + xs.getD (i + 1) 0
/-- What number does: it ends short, or tells a number that isn't in its range, or goes on behind it. -/
def NumP (g : Nat) (A : Option Addr) (len cap i k : Nat) (lo hi : Int) (xs : List Int) (w : World) (e : Ending) (w' : World) : Prop :=
  Rd g w w' ∧ ((len < i + k ∧ e = flt 1 len) ∨ (i + k ≤ len ∧ ¬ (lo ≤ Im.num xs i k ∧ Im.num xs i k ≤ hi) ∧ e = flt 3 i) ∨
    (i + k ≤ len ∧ lo ≤ Im.num xs i k ∧ Im.num xs i k ≤ hi ∧ e = .returned (.int .i64 (Im.num xs i k)) ∧ RB w' g A len cap ((i + k : Nat) : Int)))
theorem number_any (g : Nat) (A : Option Addr) (len cap i k : Nat) (lo hi : Int) (xs : List Int) (w : World) (hb : RB w g A len cap i) (hx : ByR g w A len cap xs) (hi' : i ≤ len) (hk : k = 1 ∨ k = 2) :
    Calls Tryd.prog 45 #[.pointer (some ⟨g, 0, none⟩), .int .i64 k, .int .i64 lo, .int .i64 hi] w (NumP g A len cap i k lo hi xs w) := by
  have hc := hx.sl.hcap
  have hle := hx.sl.hle
  unfold maxLen at hc
  rcases Nat.lt_or_ge len (i + k) with h1 | h1
  · refine (number_short g A len cap i k lo hi w hb (by omega) hi' (by omega) h1).mono ?_
    rintro e w' ⟨rfl, hr⟩
    exact ⟨hr, .inl ⟨h1, rfl⟩⟩
  · obtain ⟨b, o, rfl, _, _⟩ := hx.sl.mem (by omega)
    rcases hk with rfl | rfl
    · refine (number_one g b o len cap i lo hi xs w hb hx (by omega) h1).mono ?_
      rintro e w' (⟨h2, rfl, hr⟩ | ⟨h2, rfl, hb', hr⟩)
      · exact ⟨hr, .inr (.inl ⟨h1, h2, rfl⟩)⟩
      · exact ⟨hr, .inr (.inr ⟨h1, h2.1, h2.2, rfl, hb'⟩)⟩
    · refine (number_two g b o len cap i lo hi _ xs w hb hx (by omega) h1 rfl).mono ?_
      rintro e w' (⟨h2, rfl, hr⟩ | ⟨h2, rfl, hb', hr⟩)
      · exact ⟨hr, .inr (.inl ⟨h1, h2, rfl⟩)⟩
      · exact ⟨hr, .inr (.inr ⟨h1, h2.1, h2.2, rfl, hb'⟩)⟩
end Go.Proofs.YtjadiijjahjjoaaDoor
