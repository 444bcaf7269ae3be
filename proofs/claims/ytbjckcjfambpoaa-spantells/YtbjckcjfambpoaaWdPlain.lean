/-
  Plain arithmetic of words of some width (no Go in sight): what Mask, Cut, Sign and Apply come to, as functions on integers, and the facts that the laws of layer 1 want.
-/
import Derived.Laws.BitsAllLaws
namespace Go.Proofs.Ytbjckcjfambpoaa.Wd
set_option linter.unusedSimpArgs false
set_option linter.unusedVariables false
set_option maxRecDepth 100000

/-- A width as it counts. -/
def wid (a : Int) : Nat := (min (max a 1) 64).toNat
/-- Two to the n. -/
def pw (n : Nat) : Int := 2 ^ n
def msk (a : Int) : Int := pw (wid a) - 1
def cut (a x : Int) : Int := x % pw (wid a)
def hib (a : Int) : Int := pw (wid a - 1)
def sgn (a x : Int) : Int := if cut a x < hib a then cut a x else cut a x - pw (wid a)

theorem wid_lo (a : Int) : 1 ≤ wid a := by unfold wid; omega
theorem wid_hi (a : Int) : wid a ≤ 64 := by unfold wid; omega
theorem pw_pos (n : Nat) : 0 < pw n := Int.pow_pos (by decide)
theorem pw_succ (n : Nat) : pw (n + 1) = 2 * pw n := by unfold pw; rw [Int.pow_succ]; omega
theorem pw_add (m n : Nat) : pw (m + n) = pw m * pw n := by unfold pw; rw [Int.pow_add]
theorem pw_nat (n : Nat) : pw n = ((2 ^ n : Nat) : Int) := by unfold pw; simp
theorem pw_64 : pw 64 = 18446744073709551616 := by decide
theorem pw_mono {m n : Nat} (h : m ≤ n) : pw m ≤ pw n := by
  rw [pw_nat, pw_nat]; exact_mod_cast Nat.pow_le_pow_right (by decide) h
theorem pw_le (a : Int) : pw (wid a) ≤ 18446744073709551616 := by
  have := pw_mono (wid_hi a); rw [pw_64] at this; exact this
theorem pw_ge (a : Int) : 2 ≤ pw (wid a) := by
  have := pw_mono (wid_lo a); have h : pw 1 = 2 := by decide
  omega
theorem pw_hib (a : Int) : pw (wid a) = 2 * hib a := by
  unfold hib
  have h := wid_lo a
  have : wid a = wid a - 1 + 1 := by omega
  rw [← pw_succ, ← this]
theorem hib_pos (a : Int) : 0 < hib a := pw_pos _
theorem cut_lo (a x : Int) : 0 ≤ cut a x := Int.emod_nonneg _ (by have := pw_pos (wid a); omega)
theorem cut_lt (a x : Int) : cut a x < pw (wid a) := Int.emod_lt_of_pos _ (pw_pos _)
theorem cut_hi (a x : Int) : cut a x < 18446744073709551616 := by have := cut_lt a x; have := pw_le a; omega
theorem msk_lo (a : Int) : 1 ≤ msk a := by unfold msk; have := pw_ge a; omega
theorem msk_hi (a : Int) : msk a < 18446744073709551616 := by unfold msk; have := pw_le a; omega
theorem hib_hi (a : Int) : hib a < 18446744073709551616 := by have := pw_hib a; have := pw_le a; have := hib_pos a; omega
theorem cut_of_lt {a x : Int} (h0 : 0 ≤ x) (h : x < pw (wid a)) : cut a x = x := Int.emod_eq_of_lt h0 h
theorem cut_cut (a x : Int) : cut a (cut a x) = cut a x := Int.emod_emod _ _
theorem cut_hi_le (a x : Int) : cut a x ≤ msk a := by have := cut_lt a x; unfold msk; omega

/-! ### what the code's own steps come to -/
theorem mask_code : ∀ n : Nat, n ≤ 64 → (18446744073709551615 : Int) / 2 ^ (64 - n) = 2 ^ n - 1 := by decide +kernel
theorem pw_dvd64 (a : Int) : pw (wid a) ∣ 18446744073709551616 := by
  rw [← pw_64, show 64 = wid a + (64 - wid a) from by have := wid_hi a; omega, pw_add]
  exact ⟨_, rfl⟩
theorem cut_mod64 (a x : Int) : cut a (x % 18446744073709551616) = cut a x := Int.emod_emod_of_dvd _ (pw_dvd64 a)
theorem msk_nat (a : Int) : (msk a).toNat = 2 ^ wid a - 1 := by
  unfold msk; rw [pw_nat]; have : 0 < 2 ^ wid a := Nat.two_pow_pos _; omega
theorem and_msk (a x : Int) (h0 : 0 ≤ x) : ((x.toNat &&& (msk a).toNat : Nat) : Int) = cut a x := by
  obtain ⟨n, rfl⟩ := Int.eq_ofNat_of_zero_le h0
  rw [msk_nat, Nat.and_two_pow_sub_one_eq_mod]
  unfold cut; rw [pw_nat]; simp
theorem bits_msk (a x : Int) (h0 : 0 ≤ x) (h1 : x < 18446744073709551616) : bits .and .u64 x (msk a) = cut a x := by
  rw [u64_and x (msk a) h0 h1 (by have := msk_lo a; omega) (msk_hi a), and_msk a x h0]

theorem mask_code' (a : Int) : (18446744073709551615 : Int) / 2 ^ (64 - wid a) = msk a := mask_code (wid a) (wid_hi a)
theorem high_code (a : Int) : IntKind.u64.wrap (2 ^ (wid a - 1)) = hib a := by
  rw [IntKind.wrap_u64]
  exact Int.emod_eq_of_lt (Int.le_of_lt (hib_pos a)) (hib_hi a)
theorem mul_mod_pw (m n : Nat) (x : Int) : (x * pw m) % pw (n + m) = (x % pw n) * pw m := by
  rw [pw_add, Int.mul_comm x, Int.mul_comm (pw n), Int.mul_emod_mul_of_pos _ _ (pw_pos m), Int.mul_comm]
theorem sign_code (a x : Int) : ((IntKind.u64.wrap (x * 2 ^ (64 - wid a)) + 9223372036854775808) % 18446744073709551616 - 9223372036854775808) / 2 ^ (64 - wid a) = sgn a x := by
  have e64 : (18446744073709551616 : Int) = pw (wid a + (64 - wid a)) := by
    rw [← pw_64]; congr 1; have := wid_hi a; omega
  have e : IntKind.u64.wrap (x * 2 ^ (64 - wid a)) = cut a x * pw (64 - wid a) := by
    rw [IntKind.wrap_u64]
    show (x * pw (64 - wid a)) % _ = _
    rw [e64, mul_mod_pw]; rfl
  rw [e]
  show _ / pw (64 - wid a) = _
  have hp := pw_pos (64 - wid a)
  have hh : hib a * pw (64 - wid a) = 9223372036854775808 := by
    have h1 := pw_hib a
    have h2 := e64
    rw [pw_add, h1, Int.mul_assoc] at h2
    omega
  have hlo := cut_lo a x
  have hlt := cut_lt a x
  have hpp := pw_hib a
  unfold sgn
  generalize cut a x = c at *
  generalize hib a = h at *
  generalize pw (64 - wid a) = p at *
  have h0 : 0 ≤ c * p := Int.mul_nonneg hlo (by omega)
  have h2 : c * p < 2 * h * p := Int.mul_lt_mul_of_pos_right (by omega) hp
  rw [Int.mul_assoc, hh] at h2
  by_cases hc : c < h
  · rw [if_pos hc]
    have : c * p < h * p := Int.mul_lt_mul_of_pos_right hc hp
    rw [hh] at this
    rw [Int.emod_eq_of_lt (by omega) (by omega), Int.add_sub_cancel, Int.mul_ediv_cancel _ (by omega)]
  · rw [if_neg hc]
    have : h * p ≤ c * p := Int.mul_le_mul_of_nonneg_right (by omega) (by omega)
    rw [hh] at this
    have e1 : (c * p + 9223372036854775808) % 18446744073709551616 - 9223372036854775808 = (c - pw (wid a)) * p := by
      rw [hpp, Int.sub_mul, Int.mul_assoc 2, hh]; omega
    rw [e1, Int.mul_ediv_cancel _ (by omega)]
theorem sgn_lo (a x : Int) : - hib a ≤ sgn a x := by
  unfold sgn; have := cut_lo a x; have := pw_hib a; have := hib_pos a; split <;> omega
theorem sgn_lt (a x : Int) : sgn a x < hib a := by
  unfold sgn; have := cut_lt a x; have := pw_hib a; have := hib_pos a; split <;> omega
theorem hib_63 (a : Int) : hib a ≤ 9223372036854775808 := by
  have := pw_hib a; have := pw_le a; omega
theorem cut_sgn (a x : Int) : cut a (sgn a x) = cut a x := by
  unfold sgn; split
  · exact cut_cut a x
  · unfold cut; rw [Int.sub_emod_right, Int.emod_emod]

def eqv (x y : Int) : Int := if x = y then 1 else 0
def ltv (x y : Int) : Int := if x < y then 1 else 0
/-- How far a shift moves. -/
def sh (y : Int) : Nat := min y.toNat 64
def dvd (op a x y : Int) : Int := if op = 12 then (if y = 0 then x else x % y) else (if y = 0 then msk a else x / y)
def app (op a x y : Int) : Int :=
  if op = 5 then msk a - cut a x
  else if op = 8 then cut a (x + y)
  else if op = 9 then cut a (x - y)
  else if op = 10 then cut a (x * y)
  else if op = 11 then dvd 11 a (cut a x) (cut a y)
  else if op = 12 then dvd 12 a (cut a x) (cut a y)
  else if op = 13 then (((cut a x).toNat &&& (cut a y).toNat : Nat) : Int)
  else if op = 14 then (((cut a x).toNat ||| (cut a y).toNat : Nat) : Int)
  else if op = 15 then (((cut a x).toNat ^^^ (cut a y).toNat : Nat) : Int)
  else if op = 16 then cut a (cut a x * pw (sh (cut a y)))
  else if op = 17 then cut a x / pw (sh (cut a y))
  else if op = 18 then cut a (sgn a x / pw (sh (cut a y)))
  else if op = 19 then eqv (cut a x) (cut a y)
  else if op = 20 then ltv (cut a x) (cut a y)
  else if op = 21 then ltv (sgn a x) (sgn a y)
  else 0

/-! ### the bits' operations at any integers, and at the words' own bits -/
theorem u64_ofInt (x : Int) : BitVec.ofInt 64 (x % 18446744073709551616) = BitVec.ofInt 64 x := by
  apply BitVec.eq_of_toInt_eq
  rw [BitVec.toInt_ofInt, BitVec.toInt_ofInt]
  exact Int.emod_bmod (x := x) (n := 2 ^ 64)
theorem bits_lo (op : BinOp) (x y : Int) (h : op = .and ∨ op = .or ∨ op = .xor ∨ op = .andNot) : 0 ≤ bits op .u64 x y ∧ bits op .u64 x y < 18446744073709551616 := by
  rcases h with rfl | rfl | rfl | rfl <;> (
    show 0 ≤ IntKind.u64.wrap _ ∧ IntKind.u64.wrap _ < _
    rw [IntKind.wrap_u64]
    omega)
theorem bits_and_mod (x y : Int) : bits .and .u64 (x % 18446744073709551616) y = bits .and .u64 x y := by
  show IntKind.u64.wrap ((BitVec.ofInt 64 (x % 18446744073709551616) &&& BitVec.ofInt 64 y).toNat : Int) = IntKind.u64.wrap ((BitVec.ofInt 64 x &&& BitVec.ofInt 64 y).toNat : Int)
  rw [u64_ofInt]
theorem bits_cut (a x : Int) : bits .and .u64 x (msk a) = cut a x := by
  rw [← bits_and_mod, bits_msk a _ (by omega) (by omega), cut_mod64]
theorem bits_or_zero (x : Int) (h0 : 0 ≤ x) (h1 : x < 18446744073709551616) : bits .or .u64 x 0 = x := by
  rw [u64_or x 0 h0 h1 (by decide) (by decide)]
  simp; omega
theorem nat_and_pow (k x : Nat) (h : x < 2 ^ (k + 1)) : x &&& 2 ^ k = if x < 2 ^ k then 0 else 2 ^ k := by
  have hp : 0 < 2 ^ k := Nat.two_pow_pos k
  rw [Nat.pow_succ] at h
  apply Nat.eq_of_testBit_eq
  intro j
  rw [Nat.testBit_and, Nat.testBit_two_pow]
  by_cases hj : k = j
  · subst hj
    split
    · rename_i hlt
      rw [Nat.testBit_lt_two_pow hlt]; simp
    · rename_i hge
      have : x / 2 ^ k = 1 := by
        apply Nat.div_eq_of_lt_le <;> omega
      rw [Nat.testBit_eq_decide_div_mod_eq, this, Nat.testBit_two_pow_self]; simp
  · split
    · simp [hj]
    · rw [Nat.testBit_two_pow]; simp [hj]
theorem nat_xor_pow_lo (k x : Nat) (h : x < 2 ^ k) : x ^^^ 2 ^ k = 2 ^ k + x := by
  apply Nat.eq_of_testBit_eq
  intro j
  rw [Nat.testBit_xor, Nat.testBit_two_pow]
  rcases Nat.lt_trichotomy j k with hj | hj | hj
  · rw [Nat.testBit_two_pow_add_gt hj, show decide (k = j) = false from by simp; omega]; simp
  · subst hj; rw [Nat.testBit_two_pow_add_eq]; simp
  · have h1 : x < 2 ^ j := Nat.lt_of_lt_of_le h (Nat.pow_le_pow_right (by decide) (by omega))
    have h2 : 2 ^ k + x < 2 ^ j := by
      have : 2 ^ (k + 1) ≤ 2 ^ j := Nat.pow_le_pow_right (by decide) (by omega)
      rw [Nat.pow_succ] at this; omega
    rw [Nat.testBit_lt_two_pow h1, Nat.testBit_lt_two_pow h2]
    simp; omega
theorem nat_xor_pow (k x : Nat) (h : x < 2 ^ (k + 1)) : x ^^^ 2 ^ k = if x < 2 ^ k then x + 2 ^ k else x - 2 ^ k := by
  split
  · rename_i hlt; rw [nat_xor_pow_lo k x hlt]; omega
  · rename_i hge
    rw [Nat.pow_succ] at h
    have h1 : x - 2 ^ k < 2 ^ k := by omega
    have h2 := nat_xor_pow_lo k (x - 2 ^ k) h1
    rw [show 2 ^ k + (x - 2 ^ k) = x from by omega] at h2
    rw [← h2, Nat.xor_assoc, Nat.xor_self, Nat.xor_zero, h2]
theorem hib_nat (a : Int) : (hib a).toNat = 2 ^ (wid a - 1) := by unfold hib; rw [pw_nat, Int.toNat_natCast]
theorem lt_nat (a x : Int) (x0 : 0 ≤ x) (x1 : x < pw (wid a)) : x.toNat < 2 ^ (wid a - 1 + 1) := by
  have := wid_lo a
  rw [show wid a - 1 + 1 = wid a from by omega]
  rw [pw_nat] at x1
  omega
theorem hib_natCast (a : Int) : ((2 ^ (wid a - 1) : Nat) : Int) = hib a := by unfold hib; rw [pw_nat]
theorem bits_and_hib (a x : Int) (x0 : 0 ≤ x) (x1 : x < pw (wid a)) : bits .and .u64 x (hib a) = if x < hib a then 0 else hib a := by
  have h1 := pw_le a
  rw [u64_and x _ x0 (by omega) (Int.le_of_lt (hib_pos a)) (hib_hi a), hib_nat, nat_and_pow _ _ (lt_nat a x x0 x1)]
  have := hib_natCast a
  split <;> split <;> simp_all <;> omega
theorem bits_xor_hib (a x : Int) (x0 : 0 ≤ x) (x1 : x < pw (wid a)) : bits .xor .u64 x (hib a) = if x < hib a then x + hib a else x - hib a := by
  have h1 := pw_le a
  rw [u64_xor x _ x0 (by omega) (Int.le_of_lt (hib_pos a)) (hib_hi a), hib_nat, nat_xor_pow _ _ (lt_nat a x x0 x1)]
  have := hib_natCast a
  split <;> split <;> omega
theorem hib_lt (a : Int) : hib a < pw (wid a) := by have := pw_hib a; have := hib_pos a; omega

/-! ### what the shifts and comparisons of the code come to -/
theorem shl_code (a x y : Int) : cut a (bits .or .u64 (IntKind.u64.wrap (x * 2 ^ min y.toNat 64)) 0) = cut a (x * pw (sh y)) := by
  rw [bits_or_zero _ (by rw [IntKind.wrap_u64]; omega) (by rw [IntKind.wrap_u64]; omega), IntKind.wrap_u64, cut_mod64]; rfl
theorem div_pw_lo (x : Int) (k : Nat) (x0 : 0 ≤ x) : 0 ≤ x / pw k := Int.ediv_nonneg x0 (Int.le_of_lt (pw_pos k))
theorem div_pw_le (x : Int) (k : Nat) (x0 : 0 ≤ x) : x / pw k ≤ x := Int.ediv_le_self _ x0
theorem shr_code (a x y : Int) (x0 : 0 ≤ x) (x1 : x < pw (wid a)) : cut a (bits .or .u64 (x / 2 ^ min y.toNat 64) 0) = x / pw (sh y) := by
  show cut a (bits .or .u64 (x / pw (sh y)) 0) = _
  have h0 := div_pw_lo x (sh y) x0
  have h1 := div_pw_le x (sh y) x0
  have h2 := pw_le a
  rw [bits_or_zero _ h0 (by omega), cut_of_lt h0 (by omega)]
theorem nat_sar (n k x : Nat) (hn : n ≤ 64) (hk : k ≤ n) (hx : x < 2 ^ n) :
    (x / 2 ^ k) ||| ((2 ^ n - 1) &&& (18446744073709551615 - (2 ^ n - 1) / 2 ^ k)) = x / 2 ^ k + (2 ^ n - 2 ^ (n - k)) := by
  have e0 : 2 ^ n = 2 ^ (n - k) * 2 ^ k := by rw [← Nat.pow_add]; congr 1; omega
  have hpk : 0 < 2 ^ k := Nat.two_pow_pos k
  have hpn : 0 < 2 ^ (n - k) := Nat.two_pow_pos _
  have e1 : (2 ^ n - 1) / 2 ^ k = 2 ^ (n - k) - 1 := by
    apply Nat.div_eq_of_lt_le
    · rw [Nat.sub_mul, ← e0]; omega
    · rw [Nat.succ_mul, Nat.sub_mul, ← e0]
      have : 2 ^ k ≤ 2 ^ n := Nat.pow_le_pow_right (by decide) hk
      omega
  have hle : 2 ^ (n - k) ≤ 2 ^ n := Nat.pow_le_pow_right (by decide) (by omega)
  have hle2 : 2 ^ n ≤ 2 ^ 64 := Nat.pow_le_pow_right (by decide) hn
  have e64 : 18446744073709551615 - (2 ^ (n - k) - 1) = 2 ^ n - 2 ^ (n - k) + 2 ^ n * (2 ^ (64 - n) - 1) := by
    have : 2 ^ n * 2 ^ (64 - n) = 2 ^ 64 := by rw [← Nat.pow_add]; congr 1; omega
    rw [Nat.mul_sub, this]
    omega
  rw [e1, e64, Nat.and_comm, Nat.and_two_pow_sub_one_eq_mod, Nat.add_mul_mod_self_left, Nat.mod_eq_of_lt (by omega)]
  have hx' : x / 2 ^ k < 2 ^ (n - k) := by
    rw [Nat.div_lt_iff_lt_mul hpk, ← e0]; exact hx
  have e2 : 2 ^ n - 2 ^ (n - k) = 2 ^ (n - k) * (2 ^ k - 1) := by rw [Nat.mul_sub, ← e0]; omega
  rw [e2, Nat.or_comm, ← Nat.two_pow_add_eq_or_of_lt hx']
  omega
theorem pw_toNat (n : Nat) : (pw n).toNat = 2 ^ n := by rw [pw_nat, Int.toNat_natCast]
theorem toNat_div_pw (x : Int) (k : Nat) (x0 : 0 ≤ x) : (x / pw k).toNat = x.toNat / 2 ^ k := by
  obtain ⟨m, rfl⟩ := Int.eq_ofNat_of_zero_le x0
  rw [pw_nat, ← Int.natCast_ediv, Int.toNat_natCast, Int.toNat_natCast]
theorem sar_neg (a x : Int) (k : Nat) (hk : k ≤ 64) (x0 : 0 ≤ x) (x1 : x < pw (wid a)) :
    cut a (bits .or .u64 (x / pw k) (bits .andNot .u64 (msk a) (msk a / pw k))) = cut a ((x - pw (wid a)) / pw k) := by
  have hle := pw_le a
  have hm0 := msk_lo a
  have hm1 := msk_hi a
  have d0 := div_pw_lo x k x0
  have d1 := div_pw_le x k x0
  have g0 := div_pw_lo (msk a) k (by omega)
  have g1 := div_pw_le (msk a) k (by omega)
  rw [u64_andNot _ _ (by omega) hm1 g0 (by omega)]
  have hnn : (msk a).toNat &&& (18446744073709551615 - (msk a / pw k).toNat) < 2 ^ 64 := Nat.and_lt_two_pow _ (by omega)
  rw [u64_or _ _ d0 (by omega) (by omega) (by omega), Int.toNat_natCast, toNat_div_pw _ _ x0, toNat_div_pw _ _ (by omega), msk_nat]
  have hw := wid_hi a
  have hxn : x.toNat < 2 ^ wid a := by rw [pw_nat] at x1; omega
  by_cases hkn : k ≤ wid a
  · rw [nat_sar (wid a) k x.toNat hw hkn hxn]
    have e0 : pw (wid a) = pw (wid a - k) * pw k := by rw [← pw_add]; congr 1; omega
    have e1 : (x - pw (wid a)) / pw k = x / pw k - pw (wid a - k) := by
      rw [e0, Int.sub_eq_add_neg, ← Int.neg_mul, Int.add_mul_ediv_right _ _ (by have := pw_pos k; omega)]; omega
    have e2 : ((x.toNat / 2 ^ k + (2 ^ wid a - 2 ^ (wid a - k)) : Nat) : Int) = x / pw k - pw (wid a - k) + pw (wid a) := by
      have h1 := toNat_div_pw x k x0
      have h2 := pw_nat (wid a)
      have h3 := pw_nat (wid a - k)
      have h4 : 2 ^ (wid a - k) ≤ 2 ^ wid a := Nat.pow_le_pow_right (by decide) (by omega)
      omega
    rw [e1, e2]
    unfold cut
    rw [Int.add_emod_right]
  · have hlt : 2 ^ wid a ≤ 2 ^ (k - 1) := Nat.pow_le_pow_right (by decide) (by omega)
    have h2 : 2 ^ k = 2 ^ (k - 1) * 2 := by rw [← Nat.pow_succ]; congr 1; omega
    rw [Nat.div_eq_of_lt (by omega), Nat.div_eq_of_lt (by omega)]
    have e1 : (x - pw (wid a)) / pw k = -1 := by
      have hp := pw_nat (wid a); have hq := pw_nat k
      rw [show (x - pw (wid a)) = (x - pw (wid a) + pw k) + (-1) * pw k from by omega, Int.add_mul_ediv_right _ _ (by have := pw_pos k; omega), Int.ediv_eq_zero_of_lt (by omega) (by omega)]; rfl
    rw [e1, Nat.sub_zero, Nat.zero_or]
    have e2 : (2 ^ wid a - 1) &&& 18446744073709551615 = 2 ^ wid a - 1 := by
      have : (18446744073709551615 : Nat) = 2 ^ 64 - 1 := by decide
      rw [this, Nat.and_two_pow_sub_one_eq_mod]
      apply Nat.mod_eq_of_lt
      have : 2 ^ wid a ≤ 2 ^ 64 := Nat.pow_le_pow_right (by decide) hw
      have := Nat.two_pow_pos (wid a)
      omega
    rw [e2]
    have hp := pw_nat (wid a)
    have hpos := Nat.two_pow_pos (wid a)
    have e3 : ((2 ^ wid a - 1 : Nat) : Int) = -1 + pw (wid a) := by omega
    rw [e3]
    unfold cut
    rw [Int.add_emod_right]
theorem sgn_word (a x : Int) (x0 : 0 ≤ x) (x1 : x < pw (wid a)) : sgn a x = if x < hib a then x else x - pw (wid a) := by
  unfold sgn; rw [cut_of_lt x0 x1]
theorem sar_code_neg (a x y : Int) (x0 : 0 ≤ x) (x1 : x < pw (wid a)) (h : ¬ x < hib a) :
    cut a (bits .or .u64 (x / 2 ^ min y.toNat 64) (bits .andNot .u64 (msk a) (msk a / 2 ^ min y.toNat 64))) = cut a (sgn a x / pw (sh y)) := by
  rw [sgn_word a x x0 x1, if_neg h]
  exact sar_neg a x (sh y) (by unfold sh; omega) x0 x1
theorem sar_code_pos (a x y : Int) (x0 : 0 ≤ x) (x1 : x < pw (wid a)) (h : x < hib a) :
    cut a (bits .or .u64 (x / 2 ^ min y.toNat 64) 0) = cut a (sgn a x / pw (sh y)) := by
  rw [shr_code a x y x0 x1, sgn_word a x x0 x1, if_pos h, cut_of_lt (div_pw_lo _ _ x0) (by have := div_pw_le x (sh y) x0; omega)]
theorem below_code (a x y : Int) (x0 : 0 ≤ x) (x1 : x < pw (wid a)) (y0 : 0 ≤ y) (y1 : y < pw (wid a)) :
    (bits .xor .u64 x (hib a) < bits .xor .u64 y (hib a)) ↔ sgn a x < sgn a y := by
  rw [bits_xor_hib a x x0 x1, bits_xor_hib a y y0 y1, sgn_word a x x0 x1, sgn_word a y y0 y1]
  have := pw_hib a
  split <;> split <;> omega

/-! ### what Apply's branches come to -/
theorem nat_xor_all (x : Nat) (h : x < 2 ^ 64) : 18446744073709551615 ^^^ x = 18446744073709551615 - x := by
  rw [show (18446744073709551615 : Nat) - x = 2 ^ 64 - (x + 1) from by omega]
  apply Nat.eq_of_testBit_eq
  intro i
  rw [Nat.testBit_xor, Nat.testBit_two_pow_sub_succ h, show (18446744073709551615 : Nat) = 2 ^ 64 - 1 from by decide, Nat.testBit_two_pow_sub_one]
  by_cases hi : i < 64
  · simp [hi]
  · have : x < 2 ^ i := Nat.lt_of_lt_of_le h (Nat.pow_le_pow_right (by decide) (by omega))
    simp [hi, Nat.testBit_lt_two_pow this]
theorem cut_neg_all (a c : Int) (c0 : 0 ≤ c) (c1 : c < pw (wid a)) : cut a (18446744073709551615 - c) = msk a - c := by
  obtain ⟨q, hq⟩ := pw_dvd64 a
  unfold cut msk
  rw [show (18446744073709551615 : Int) - c = (pw (wid a) - 1 - c) + pw (wid a) * (q - 1) from by rw [Int.mul_sub, ← hq]; omega, Int.add_mul_emod_self_left]
  exact Int.emod_eq_of_lt (by omega) (by omega)
theorem not_code (a x y : Int) : cut a (bits .xor .u64 IntKind.u64.max (cut a x)) = app 5 a x y := by
  have e : IntKind.u64.max = 18446744073709551615 := by decide
  have c0 := cut_lo a x
  have c1 := cut_hi a x
  rw [e, u64_xor _ _ (by decide) (by decide) c0 c1]
  rw [show ((18446744073709551615 : Int).toNat) = 18446744073709551615 from rfl, nat_xor_all _ (by omega)]
  rw [show ((18446744073709551615 - (cut a x).toNat : Nat) : Int) = 18446744073709551615 - cut a x from by omega, cut_neg_all a _ c0 (cut_lt a x)]
  simp [app]
theorem cut_wrap (a x : Int) : cut a (IntKind.u64.wrap x) = cut a x := by rw [IntKind.wrap_u64, cut_mod64]
theorem cut_add_l (a x y : Int) : cut a (cut a x + y) = cut a (x + y) := Int.emod_add_emod _ _ _
theorem cut_add_r (a x y : Int) : cut a (x + cut a y) = cut a (x + y) := Int.add_emod_emod _ _ _
theorem cut_sub_r (a x y : Int) : cut a (x - cut a y) = cut a (x - y) := Int.sub_emod_emod _ _ _
theorem cut_sub_l (a x y : Int) : cut a (cut a x - y) = cut a (x - y) := Int.emod_sub_emod _ _ _
theorem cut_mul_l (a x y : Int) : cut a (cut a x * y) = cut a (x * y) := by unfold cut; rw [Int.mul_emod, Int.emod_emod, ← Int.mul_emod]
theorem cut_mul_r (a x y : Int) : cut a (x * cut a y) = cut a (x * y) := by unfold cut; rw [Int.mul_emod, Int.emod_emod, ← Int.mul_emod]
theorem cut_congr_add (a x y y' : Int) (h : cut a y = cut a y') : cut a (x + y) = cut a (x + y') := by rw [← cut_add_r, h, cut_add_r]
theorem add_code (a x y : Int) : cut a (IntKind.u64.wrap (cut a x + cut a y)) = app 8 a x y := by
  rw [cut_wrap, cut_add_l, cut_add_r]; simp [app]
theorem sub_code (a x y : Int) : cut a (IntKind.u64.wrap (cut a x + IntKind.u64.wrap (-cut a y))) = app 9 a x y := by
  rw [cut_wrap, cut_congr_add a _ _ _ (cut_wrap a (-cut a y)), ← Int.sub_eq_add_neg, cut_sub_l, cut_sub_r]; simp [app]
theorem mul_code (a x y : Int) : cut a (IntKind.u64.wrap (cut a x * cut a y)) = app 10 a x y := by
  rw [cut_wrap, cut_mul_l, cut_mul_r]; simp [app]
theorem and_code (a x y : Int) : bits .and .u64 (cut a x) (cut a y) = app 13 a x y := by
  rw [u64_and _ _ (cut_lo a x) (cut_hi a x) (cut_lo a y) (cut_hi a y)]; simp [app]
theorem or_code (a x y : Int) : bits .or .u64 (cut a x) (cut a y) = app 14 a x y := by
  rw [u64_or _ _ (cut_lo a x) (cut_hi a x) (cut_lo a y) (cut_hi a y)]; simp [app]
theorem xor_code (a x y : Int) : bits .xor .u64 (cut a x) (cut a y) = app 15 a x y := by
  rw [u64_xor _ _ (cut_lo a x) (cut_hi a x) (cut_lo a y) (cut_hi a y)]; simp [app]
theorem sgn_cut (a x : Int) : sgn a (cut a x) = sgn a x := by unfold sgn; rw [cut_cut]
def isOp (op : Int) : Bool := op == 5 || op == 8 || op == 9 || op == 10 || op == 11 || op == 12 || op == 13 || op == 14 || op == 15 || op == 16 || op == 17 || op == 18 || op == 19 || op == 20 || op == 21

/-! ### the laws' own facts -/
theorem app8 (a x y : Int) : app 8 a x y = cut a (x + y) := by simp [app]
theorem app9 (a x y : Int) : app 9 a x y = cut a (x - y) := by simp [app]
theorem app10 (a x y : Int) : app 10 a x y = cut a (x * y) := by simp [app]
theorem app5 (a x y : Int) : app 5 a x y = msk a - cut a x := by simp [app]
theorem app11 (a x y : Int) : app 11 a x y = if cut a y = 0 then msk a else cut a x / cut a y := by simp [app, dvd]
theorem app12 (a x y : Int) : app 12 a x y = if cut a y = 0 then cut a x else cut a x % cut a y := by simp [app, dvd]
theorem divides_zero (a x y : Int) (h : cut a y = 0) : app 11 a x y = msk a ∧ app 12 a x y = cut a x := by
  rw [app11, app12, if_pos h, if_pos h]; exact ⟨rfl, rfl⟩
theorem divides (a x y : Int) (h : cut a y ≠ 0) : app 8 a (app 10 a (app 11 a x y) y) (app 12 a x y) = cut a x ∧ app 12 a x y < cut a y ∧ app 11 a x y ≤ cut a x := by
  have y0 := cut_lo a y
  have x0 := cut_lo a x
  rw [app8, app10, app11, app12, if_neg h, if_neg h, cut_add_l]
  refine ⟨?_, Int.emod_lt_of_pos _ (by omega), Int.ediv_le_self _ x0⟩
  rw [← cut_add_l, ← cut_mul_r, cut_add_l, Int.mul_comm, Int.mul_ediv_add_emod, cut_cut]

theorem nat_lt (a x : Int) : (cut a x).toNat < 2 ^ wid a := by
  have h0 := cut_lo a x; have h1 := cut_lt a x; rw [pw_nat] at h1; omega
theorem of_nat_lt (a : Int) (n : Nat) (h : n < 2 ^ wid a) : (n : Int) ≤ msk a := by
  unfold msk; rw [pw_nat]; omega
theorem dvd_le (op a x y : Int) (x0 : 0 ≤ x) (x1 : x ≤ msk a) (y0 : 0 ≤ y) : dvd op a x y ≤ msk a := by
  unfold dvd
  have h1 : x / y ≤ x := Int.ediv_le_self _ x0
  have h2 : x % y ≤ x := by
    rw [Int.emod_def]
    have := Int.mul_nonneg y0 (Int.ediv_nonneg x0 y0)
    omega
  split <;> split
  · exact x1
  · omega
  · exact Int.le_refl _
  · omega
theorem ite_le {c : Prop} [Decidable c] {p q m : Int} (h1 : p ≤ m) (h2 : q ≤ m) : (if c then p else q) ≤ m := by split <;> assumption
theorem app_le (op a x y : Int) : app op a x y ≤ msk a := by
  have m := msk_lo a
  unfold app
  refine ite_le ?_ (ite_le ?_ (ite_le ?_ (ite_le ?_ (ite_le ?_ (ite_le ?_ (ite_le ?_ (ite_le ?_ (ite_le ?_ (ite_le ?_ (ite_le ?_ (ite_le ?_ (ite_le ?_ (ite_le ?_ (ite_le ?_ ?_))))))))))))))
  · have := cut_lo a x; omega
  · exact cut_hi_le _ _
  · exact cut_hi_le _ _
  · exact cut_hi_le _ _
  · exact dvd_le _ _ _ _ (cut_lo _ _) (cut_hi_le _ _) (cut_lo _ _)
  · exact dvd_le _ _ _ _ (cut_lo _ _) (cut_hi_le _ _) (cut_lo _ _)
  · exact of_nat_lt _ _ (Nat.and_lt_two_pow _ (nat_lt a y))
  · exact of_nat_lt _ _ (Nat.or_lt_two_pow (nat_lt a x) (nat_lt a y))
  · exact of_nat_lt _ _ (Nat.xor_lt_two_pow (nat_lt a x) (nat_lt a y))
  · exact cut_hi_le _ _
  · have := div_pw_le (cut a x) (sh (cut a y)) (cut_lo _ _); have := cut_hi_le a x; omega
  · exact cut_hi_le _ _
  · unfold eqv; split <;> omega
  · unfold ltv; split <;> omega
  · unfold ltv; split <;> omega
  · omega
theorem app_cut (op a x y : Int) : app op a (cut a x) (cut a y) = app op a x y := by
  unfold app
  simp only [cut_cut, sgn_cut, cut_add_l, cut_add_r, cut_sub_l, cut_sub_r, cut_mul_l, cut_mul_r]
theorem wid_of_msk (v a : Int) (h : msk v ≤ msk a) : wid v ≤ wid a := by
  unfold msk at h
  rw [pw_nat, pw_nat] at h
  exact (Nat.pow_le_pow_iff_right (by decide : 1 < 2)).1 (by omega)
theorem cut_low (v a x : Int) (h : wid v ≤ wid a) : cut v (cut a x) = cut v x := by
  unfold cut
  refine Int.emod_emod_of_dvd _ ?_
  rw [show wid a = wid v + (wid a - wid v) from by omega, pw_add]
  exact ⟨_, rfl⟩
theorem cut_low_nat (v a x : Int) (h : wid v ≤ wid a) : (cut a x).toNat % 2 ^ wid v = (cut v x).toNat := by
  rw [← cut_low v a x h]
  unfold cut
  rw [pw_nat (wid v), Int.toNat_emod (Int.emod_nonneg _ (by have := pw_pos (wid a); omega)) (Int.natCast_nonneg _), Int.toNat_natCast]
theorem cut_nat (v : Int) (n : Nat) : cut v (n : Int) = ((n % 2 ^ wid v : Nat) : Int) := by
  unfold cut; rw [pw_nat]; exact (Int.natCast_emod n (2 ^ wid v)).symm
theorem low_not (v a x y : Int) (h : wid v ≤ wid a) : cut v (app 5 a x y) = app 5 v x y := by
  rw [app5, app5]
  have e : ∀ b : Int, msk b - cut b x = cut b (-1 - x) := by
    intro b
    have c0 := cut_lo b x
    have c1 := cut_lt b x
    rw [← cut_sub_r]
    unfold msk
    generalize cut b x = c at *
    have : (-1 - c) = (pw (wid b) - 1 - c) + pw (wid b) * (-1) := by omega
    show _ = (-1 - c) % pw (wid b)
    rw [this, Int.add_mul_emod_self_left, Int.emod_eq_of_lt (by omega) (by omega)]
  rw [e a, e v, cut_low v a _ h]
theorem low_add (v a x y : Int) (h : wid v ≤ wid a) : cut v (app 8 a x y) = app 8 v x y := by rw [app8, app8, cut_low v a _ h]
theorem low_sub (v a x y : Int) (h : wid v ≤ wid a) : cut v (app 9 a x y) = app 9 v x y := by rw [app9, app9, cut_low v a _ h]
theorem low_mul (v a x y : Int) (h : wid v ≤ wid a) : cut v (app 10 a x y) = app 10 v x y := by rw [app10, app10, cut_low v a _ h]
theorem low_and (v a x y : Int) (h : wid v ≤ wid a) : cut v (app 13 a x y) = app 13 v x y := by
  show cut v (app 13 a x y) = (((cut v x).toNat &&& (cut v y).toNat : Nat) : Int)
  show cut v (((cut a x).toNat &&& (cut a y).toNat : Nat) : Int) = _
  rw [cut_nat, Nat.and_mod_two_pow, cut_low_nat v a x h, cut_low_nat v a y h]
theorem low_or (v a x y : Int) (h : wid v ≤ wid a) : cut v (app 14 a x y) = app 14 v x y := by
  show cut v (app 14 a x y) = (((cut v x).toNat ||| (cut v y).toNat : Nat) : Int)
  show cut v (((cut a x).toNat ||| (cut a y).toNat : Nat) : Int) = _
  rw [cut_nat, Nat.or_mod_two_pow, cut_low_nat v a x h, cut_low_nat v a y h]
theorem low_xor (v a x y : Int) (h : wid v ≤ wid a) : cut v (app 15 a x y) = app 15 v x y := by
  show cut v (app 15 a x y) = (((cut v x).toNat ^^^ (cut v y).toNat : Nat) : Int)
  show cut v (((cut a x).toNat ^^^ (cut a y).toNat : Nat) : Int) = _
  rw [cut_nat, Nat.xor_mod_two_pow, cut_low_nat v a x h, cut_low_nat v a y h]

theorem rings (a x y z : Int) : app 8 a x y = app 8 a y x ∧ app 10 a x y = app 10 a y x ∧ app 8 a (app 8 a x y) z = app 8 a x (app 8 a y z) ∧ app 10 a (app 10 a x y) z = app 10 a x (app 10 a y z)
    ∧ app 10 a x (app 8 a y z) = app 8 a (app 10 a x y) (app 10 a x z) ∧ app 9 a (app 8 a x y) y = cut a x ∧ app 8 a (app 5 a x y) 1 = app 9 a 0 x ∧ app 10 a x 1 = cut a x ∧ app 8 a x 0 = cut a x := by
  simp only [app8, app9, app10, cut_add_l, cut_add_r, cut_sub_l, cut_mul_l, cut_mul_r]
  refine ⟨by rw [Int.add_comm], by rw [Int.mul_comm], by rw [Int.add_assoc], by rw [Int.mul_assoc], by rw [Int.mul_add], by rw [Int.add_sub_cancel], ?_, by rw [Int.mul_one], by rw [Int.add_zero]⟩
  rw [app5, show msk a - cut a x + 1 = (0 - cut a x) + pw (wid a) from by unfold msk; omega]
  have : cut a (0 - cut a x + pw (wid a)) = cut a (0 - cut a x) := by unfold cut; rw [Int.add_emod_right]
  rw [this, cut_sub_r]
theorem orders_less (x y : Int) : ltv x y + ltv y x + eqv x y = 1 := by
  unfold ltv eqv; split <;> split <;> split <;> omega
theorem sgn_eq (a x y : Int) : sgn a x = sgn a y ↔ cut a x = cut a y := by
  constructor
  · intro h; rw [← cut_sgn a x, h, cut_sgn]
  · intro h; unfold sgn; rw [h]
theorem eqv_sgn (a x y : Int) : eqv (sgn a x) (sgn a y) = eqv (cut a x) (cut a y) := by
  unfold eqv; have := sgn_eq a x y; split <;> split <;> simp_all
theorem app19 (a x y : Int) : app 19 a x y = eqv (cut a x) (cut a y) := by simp [app]
theorem app20 (a x y : Int) : app 20 a x y = ltv (cut a x) (cut a y) := by simp [app]
theorem app21 (a x y : Int) : app 21 a x y = ltv (sgn a x) (sgn a y) := by simp [app]
theorem app15 (a x y : Int) : app 15 a x y = (((cut a x).toNat ^^^ (cut a y).toNat : Nat) : Int) := by simp [app]
theorem top_is (a : Int) : msk a - msk a / 2 = hib a := by
  unfold msk; have := pw_hib a; have := hib_pos a; omega
theorem xor_top (a x : Int) : app 15 a x (hib a) = if cut a x < hib a then cut a x + hib a else cut a x - hib a := by
  rw [← xor_code, cut_of_lt (Int.le_of_lt (hib_pos a)) (hib_lt a)]
  exact bits_xor_hib a _ (cut_lo a x) (cut_lt a x)
theorem below_less (a x y : Int) : app 21 a x y = app 20 a (app 15 a x (hib a)) (app 15 a y (hib a)) := by
  rw [app21, app20, xor_top, xor_top]
  have hp := pw_hib a
  have hh := hib_pos a
  have x0 := cut_lo a x
  have x1 := cut_lt a x
  have y0 := cut_lo a y
  have y1 := cut_lt a y
  have hc : ∀ z : Int, 0 ≤ z → z < pw (wid a) → cut a (if z < hib a then z + hib a else z - hib a) = if z < hib a then z + hib a else z - hib a := by
    intro z z0 z1
    apply cut_of_lt <;> split <;> omega
  rw [hc _ x0 x1, hc _ y0 y1]
  unfold sgn ltv
  split <;> split <;> split <;> split <;> omega

end Go.Proofs.Ytbjckcjfambpoaa.Wd
