/-
  Contracts of the reference's Right, and of both Check.
-/
import Derived.Test.YtfehmbcgehflmaaTmR0
import Derived.Test.YtfehmbcgehflmaaTmR1
import Derived.Test.YtfehmbcgehflmaaTmR2
import Derived.Test.YtfehmbcgehflmaaTmR3
namespace Go.Proofs.Ytfehmbcgehflmaa
set_option linter.unusedSimpArgs false
set_option linter.unusedVariables false
open Go.RowKit

theorem Tm.flt_kid {nd : Tm.Nd} {len : Nat} {X : List Tm.Nd} (ho : ¬ (nd.op < 0 ∨ 24 < nd.op)) (hk : Tm.kok nd len = false) : Tm.flt nd len X = 9 := by rw [Tm.flt, if_neg ho, if_pos hk]
theorem Tm.flt_res {nd : Tm.Nd} {len : Nat} {X : List Tm.Nd} {x y u : Int} (ho : ¬ (nd.op < 0 ∨ 24 < nd.op)) (hk : Tm.kok nd len = true) (h0 : 0 ≤ nd.n) (h1 : nd.n < 18446744073709551616) (hx : 0 ≤ x) (hy : 0 ≤ y)
    (ex : Tm.w0 nd X = x) (ey : Tm.w1 nd X = y) (eu : Tm.w2 nd X = u) : Tm.flt nd len X = Tm.rres nd.op nd.w nd.n x y u := by
  subst ex ey eu
  rw [Tm.flt, if_neg ho, if_neg (by rw [hk]; simp), Tm.rres]
  have a := Tm.wok_ref (op := nd.op) (w := nd.w) (v := Tm.w2 nd X) hx hy
  have b := Tm.nok_ref (op := nd.op) (w := nd.w) h0 (by omega)
  by_cases c : Tm.rwid nd.op nd.w (Tm.w0 nd X) (Tm.w1 nd X) (Tm.w2 nd X) ≠ nd.w ∨ nd.w < 0
  · rw [if_pos c, if_pos (by rw [← Bool.not_eq_true, a]; exact fun h => h c)]
  · rw [if_neg c, if_neg (by rw [a.2 c]; simp)]
    by_cases d : Tm.mst nd.op nd.w < nd.n
    · rw [if_pos d, if_pos (by rw [← Bool.not_eq_true, b]; exact fun h => h d)]
    · rw [if_neg d, if_neg (by rw [b.2 d]; simp)]

set_option maxRecDepth 20000 in
set_option maxHeartbeats 1000000 in
theorem rr_op (op v n a b c : Int) (A : Option Addr) (len cap : Nat) (w : World) (ho : op < 0 ∨ 24 < op) :
    Calls Try.prog 26 #[.agg #[.int .i64 op, .int .i64 v, .int .u64 n, .int .i64 a, .int .i64 b, .int .i64 c], .slice A len cap] w fun e w' => e = .returned (.int .i64 4) ∧ Below w.heap.size w w' := by
  go_enter Try.func26, Try.ntmps26
  go_wp2
  all_goals
    try (exfalso; omega)
    go_ret
    exact ⟨rfl, Below.box _ _⟩

set_option maxHeartbeats 1000000 in
theorem right_any (op v n a b c : Int) (A : Option Addr) (len cap : Nat) (X : List Tm.Nd) (w : World) (h : NdR w A len cap X) (h0 : 0 ≤ n) (h1 : n < 18446744073709551616) (hw : ∀ j, j < len → 0 ≤ (X.getD j Tm.z).w) :
    Calls Try.prog 26 #[.agg #[.int .i64 op, .int .i64 v, .int .u64 n, .int .i64 a, .int .i64 b, .int .i64 c], .slice A len cap] w fun e w' => e = .returned (.int .i64 (Tm.flt ⟨op, v, n, a, b, c⟩ len X)) ∧ Below w.heap.size w w' := by
  by_cases ho : op < 0 ∨ 24 < op
  · exact (rr_op op v n a b c A len cap w ho).mono fun e w' ⟨he, hb⟩ => ⟨he.trans (ret_int (by rw [Tm.flt, if_pos ho])), hb⟩
  have o1 : ¬ op < 0 := by omega
  have o2 : ¬ 24 < op := by omega
  have hm : len ≤ maxLen := Nat.le_trans h.hle h.hcap
  have h4 : Tm.kidn op = 0 ∨ Tm.kidn op = 1 ∨ Tm.kidn op = 2 ∨ Tm.kidn op = 3 := by have := Tm.kidn_le op; omega
  rcases h4 with hk | hk | hk | hk
  · by_cases t0 : a = 0
    · have e0 : (a != 0) = false := by simp [t0]
      have hW0 : (0 : Int) ≤ 0 := Int.le_refl 0
      by_cases t1 : b = 0
      · have e1 : (b != 0) = false := by simp [t1]
        have hW1 : (0 : Int) ≤ 0 := Int.le_refl 0
        by_cases t2 : c = 0
        · have e2 : (c != 0) = false := by simp [t2]
          have hkk : Tm.kok ⟨op, v, n, a, b, c⟩ len = true := by simp [Tm.kok, hk, t0, t1, t2]
          exact (rr03 op v n a b c A len cap w hk o1 o2 hm e0 e1 e2).mono fun e w' ⟨he, hb⟩ => ⟨he.trans (ret_int (Tm.flt_res ho hkk h0 h1 hW0 hW1 (by simp [Tm.w0, hk, Tm.wd]) (by simp [Tm.w1, hk, Tm.wd]) (by simp [Tm.w2, hk, Tm.wd])).symm), hb⟩
        · have e2 : (c != 0) = true := by simpa using t2
          have hkk : Tm.kok ⟨op, v, n, a, b, c⟩ len = false := by simp [Tm.kok, hk, t0, t1, t2]
          exact (rr02 op v n a b c A len cap w hk o1 o2 hm e0 e1 e2).mono fun e w' ⟨he, hb⟩ => ⟨he.trans (ret_int (Tm.flt_kid ho hkk).symm), hb⟩
      · have e1 : (b != 0) = true := by simpa using t1
        have hkk : Tm.kok ⟨op, v, n, a, b, c⟩ len = false := by simp [Tm.kok, hk, t0, t1]
        exact (rr01 op v n a b c A len cap w hk o1 o2 hm e0 e1).mono fun e w' ⟨he, hb⟩ => ⟨he.trans (ret_int (Tm.flt_kid ho hkk).symm), hb⟩
    · have e0 : (a != 0) = true := by simpa using t0
      have hkk : Tm.kok ⟨op, v, n, a, b, c⟩ len = false := by simp [Tm.kok, hk, t0]
      exact (rr00 op v n a b c A len cap w hk o1 o2 hm e0).mono fun e w' ⟨he, hb⟩ => ⟨he.trans (ret_int (Tm.flt_kid ho hkk).symm), hb⟩
  · by_cases t0 : Tm.inn a len = true
    · obtain ⟨s0, r0⟩ := Tm.inn_iff.1 t0
      obtain ⟨i0, rfl⟩ := Int.eq_ofNat_of_zero_le s0
      obtain ⟨g, o, rfl, hg, hx⟩ := h.mem (by omega)
      have q0 := (hx i0 (by omega)).2.1
      have hW0 := hw i0 (by omega)
      by_cases t1 : b = 0
      · have e1 : (b != 0) = false := by simp [t1]
        have hW1 : (0 : Int) ≤ 0 := Int.le_refl 0
        by_cases t2 : c = 0
        · have e2 : (c != 0) = false := by simp [t2]
          have hkk : Tm.kok ⟨op, v, n, ((i0 : Nat) : Int), b, c⟩ len = true := by simp [Tm.kok, hk, t0, t1, t2]
          exact (rr13 op v n b c g o len cap w hk o1 o2 hm hg i0 _ (by omega) q0 e1 e2).mono fun e w' ⟨he, hb⟩ => ⟨he.trans (ret_int (Tm.flt_res ho hkk h0 h1 hW0 hW1 (by simp [Tm.w0, hk, Tm.wd]) (by simp [Tm.w1, hk, Tm.wd]) (by simp [Tm.w2, hk, Tm.wd])).symm), hb⟩
        · have e2 : (c != 0) = true := by simpa using t2
          have hkk : Tm.kok ⟨op, v, n, ((i0 : Nat) : Int), b, c⟩ len = false := by simp [Tm.kok, hk, t0, t1, t2]
          exact (rr12 op v n b c g o len cap w hk o1 o2 hm hg i0 _ (by omega) q0 e1 e2).mono fun e w' ⟨he, hb⟩ => ⟨he.trans (ret_int (Tm.flt_kid ho hkk).symm), hb⟩
      · have e1 : (b != 0) = true := by simpa using t1
        have hkk : Tm.kok ⟨op, v, n, ((i0 : Nat) : Int), b, c⟩ len = false := by simp [Tm.kok, hk, t0, t1]
        exact (rr11 op v n b c g o len cap w hk o1 o2 hm hg i0 _ (by omega) q0 e1).mono fun e w' ⟨he, hb⟩ => ⟨he.trans (ret_int (Tm.flt_kid ho hkk).symm), hb⟩
    · have t0 : Tm.inn a len = false := by simpa using t0
      have e0 : a < 0 ∨ (len : Int) ≤ a := by have := mt Tm.inn_iff.2 (by rw [t0]; simp); omega
      have hkk : Tm.kok ⟨op, v, n, a, b, c⟩ len = false := by simp [Tm.kok, hk, t0]
      exact (rr10 op v n a b c A len cap w hk o1 o2 hm e0).mono fun e w' ⟨he, hb⟩ => ⟨he.trans (ret_int (Tm.flt_kid ho hkk).symm), hb⟩
  · by_cases t0 : Tm.inn a len = true
    · obtain ⟨s0, r0⟩ := Tm.inn_iff.1 t0
      obtain ⟨i0, rfl⟩ := Int.eq_ofNat_of_zero_le s0
      obtain ⟨g, o, rfl, hg, hx⟩ := h.mem (by omega)
      have q0 := (hx i0 (by omega)).2.1
      have hW0 := hw i0 (by omega)
      by_cases t1 : Tm.inn b len = true
      · obtain ⟨s1, r1⟩ := Tm.inn_iff.1 t1
        obtain ⟨i1, rfl⟩ := Int.eq_ofNat_of_zero_le s1
        have q1 := (hx i1 (by omega)).2.1
        have hW1 := hw i1 (by omega)
        by_cases t2 : c = 0
        · have e2 : (c != 0) = false := by simp [t2]
          have hkk : Tm.kok ⟨op, v, n, ((i0 : Nat) : Int), ((i1 : Nat) : Int), c⟩ len = true := by simp [Tm.kok, hk, t0, t1, t2]
          exact (rr23 op v n c g o len cap w hk o1 o2 hm hg i0 _ (by omega) q0 i1 _ (by omega) q1 e2).mono fun e w' ⟨he, hb⟩ => ⟨he.trans (ret_int (Tm.flt_res ho hkk h0 h1 hW0 hW1 (by simp [Tm.w0, hk, Tm.wd]) (by simp [Tm.w1, hk, Tm.wd]) (by simp [Tm.w2, hk, Tm.wd])).symm), hb⟩
        · have e2 : (c != 0) = true := by simpa using t2
          have hkk : Tm.kok ⟨op, v, n, ((i0 : Nat) : Int), ((i1 : Nat) : Int), c⟩ len = false := by simp [Tm.kok, hk, t0, t1, t2]
          exact (rr22 op v n c g o len cap w hk o1 o2 hm hg i0 _ (by omega) q0 i1 _ (by omega) q1 e2).mono fun e w' ⟨he, hb⟩ => ⟨he.trans (ret_int (Tm.flt_kid ho hkk).symm), hb⟩
      · have t1 : Tm.inn b len = false := by simpa using t1
        have e1 : b < 0 ∨ (len : Int) ≤ b := by have := mt Tm.inn_iff.2 (by rw [t1]; simp); omega
        have hkk : Tm.kok ⟨op, v, n, ((i0 : Nat) : Int), b, c⟩ len = false := by simp [Tm.kok, hk, t0, t1]
        exact (rr21 op v n b c g o len cap w hk o1 o2 hm hg i0 _ (by omega) q0 e1).mono fun e w' ⟨he, hb⟩ => ⟨he.trans (ret_int (Tm.flt_kid ho hkk).symm), hb⟩
    · have t0 : Tm.inn a len = false := by simpa using t0
      have e0 : a < 0 ∨ (len : Int) ≤ a := by have := mt Tm.inn_iff.2 (by rw [t0]; simp); omega
      have hkk : Tm.kok ⟨op, v, n, a, b, c⟩ len = false := by simp [Tm.kok, hk, t0]
      exact (rr20 op v n a b c A len cap w hk o1 o2 hm e0).mono fun e w' ⟨he, hb⟩ => ⟨he.trans (ret_int (Tm.flt_kid ho hkk).symm), hb⟩
  · by_cases t0 : Tm.inn a len = true
    · obtain ⟨s0, r0⟩ := Tm.inn_iff.1 t0
      obtain ⟨i0, rfl⟩ := Int.eq_ofNat_of_zero_le s0
      obtain ⟨g, o, rfl, hg, hx⟩ := h.mem (by omega)
      have q0 := (hx i0 (by omega)).2.1
      have hW0 := hw i0 (by omega)
      by_cases t1 : Tm.inn b len = true
      · obtain ⟨s1, r1⟩ := Tm.inn_iff.1 t1
        obtain ⟨i1, rfl⟩ := Int.eq_ofNat_of_zero_le s1
        have q1 := (hx i1 (by omega)).2.1
        have hW1 := hw i1 (by omega)
        by_cases t2 : Tm.inn c len = true
        · obtain ⟨s2, r2⟩ := Tm.inn_iff.1 t2
          obtain ⟨i2, rfl⟩ := Int.eq_ofNat_of_zero_le s2
          have q2 := (hx i2 (by omega)).2.1
          have hkk : Tm.kok ⟨op, v, n, ((i0 : Nat) : Int), ((i1 : Nat) : Int), ((i2 : Nat) : Int)⟩ len = true := by simp [Tm.kok, hk, t0, t1, t2]
          exact (rr33 op v n g o len cap w hk o1 o2 hm hg i0 _ (by omega) q0 i1 _ (by omega) q1 i2 _ (by omega) q2).mono fun e w' ⟨he, hb⟩ => ⟨he.trans (ret_int (Tm.flt_res ho hkk h0 h1 hW0 hW1 (by simp [Tm.w0, hk, Tm.wd]) (by simp [Tm.w1, hk, Tm.wd]) (by simp [Tm.w2, hk, Tm.wd])).symm), hb⟩
        · have t2 : Tm.inn c len = false := by simpa using t2
          have e2 : c < 0 ∨ (len : Int) ≤ c := by have := mt Tm.inn_iff.2 (by rw [t2]; simp); omega
          have hkk : Tm.kok ⟨op, v, n, ((i0 : Nat) : Int), ((i1 : Nat) : Int), c⟩ len = false := by simp [Tm.kok, hk, t0, t1, t2]
          exact (rr32 op v n c g o len cap w hk o1 o2 hm hg i0 _ (by omega) q0 i1 _ (by omega) q1 e2).mono fun e w' ⟨he, hb⟩ => ⟨he.trans (ret_int (Tm.flt_kid ho hkk).symm), hb⟩
      · have t1 : Tm.inn b len = false := by simpa using t1
        have e1 : b < 0 ∨ (len : Int) ≤ b := by have := mt Tm.inn_iff.2 (by rw [t1]; simp); omega
        have hkk : Tm.kok ⟨op, v, n, ((i0 : Nat) : Int), b, c⟩ len = false := by simp [Tm.kok, hk, t0, t1]
        exact (rr31 op v n b c g o len cap w hk o1 o2 hm hg i0 _ (by omega) q0 e1).mono fun e w' ⟨he, hb⟩ => ⟨he.trans (ret_int (Tm.flt_kid ho hkk).symm), hb⟩
    · have t0 : Tm.inn a len = false := by simpa using t0
      have e0 : a < 0 ∨ (len : Int) ≤ a := by have := mt Tm.inn_iff.2 (by rw [t0]; simp); omega
      have hkk : Tm.kok ⟨op, v, n, a, b, c⟩ len = false := by simp [Tm.kok, hk, t0]
      exact (rr30 op v n a b c A len cap w hk o1 o2 hm e0).mono fun e w' ⟨he, hb⟩ => ⟨he.trans (ret_int (Tm.flt_kid ho hkk).symm), hb⟩
end Go.Proofs.Ytfehmbcgehflmaa
