/-
  MachineSaves in plain words: the run of its program.
-/
import Derived.Test.YthkhadbeomkihaaDoorMc21
import Derived.Test.YthkhadbeomkihaaDoorMc20
namespace Go.Proofs.YthkhadbeomkihaaDoor
set_option maxRecDepth 100000
open Go.RowKit

namespace Mc
theorem le_bys : ∀ (n : Nat) (x : Int), le (bys n x) = x % 256 ^ n
  | 0, x => by simp [bys, le, Int.emod_one]
  | n + 1, x => by
    simp only [bys, le]
    rw [le_bys n (x / 256), Int.pow_succ]
    have h1 := Int.emod_add_mul_ediv x 256
    have h2 := Int.emod_add_mul_ediv (x / 256) (256 ^ n)
    have h3 : x / (256 ^ n * 256) = x / 256 / 256 ^ n := by rw [Int.mul_comm, Int.ediv_ediv_of_nonneg (by decide)]
    have h4 := Int.emod_add_mul_ediv x (256 ^ n * 256)
    rw [h3] at h4
    have h5 : 256 * (256 ^ n * (x / 256 / 256 ^ n)) = 256 ^ n * 256 * (x / 256 / 256 ^ n) := by rw [← Int.mul_assoc, Int.mul_comm 256 (256 ^ n)]
    have h6 : 256 * (x / 256) = 256 * (x / 256 % 256 ^ n) + 256 * (256 ^ n * (x / 256 / 256 ^ n)) := by rw [← Int.mul_add, h2]
    omega
theorem sav_take' {mm : List Int} {k n : Nat} {x : Int} (h : k + n ≤ mm.length) : (sav mm k n x).take k = mm.take k := by
  unfold sav
  have h1 : (mm.take k).length = k := by simp; omega
  rw [List.append_assoc, List.take_append_of_le_length (by omega), List.take_of_length_le (by omega)]
theorem sav_drop' {mm : List Int} {k n : Nat} {x : Int} (h : k + n ≤ mm.length) : (sav mm k n x).drop (k + n) = mm.drop (k + n) := by
  unfold sav
  have h1 : (mm.take k ++ bys n x).length = k + n := by simp [bys_len]; omega
  rw [← h1, List.drop_append_of_le_length (Nat.le_refl _), List.drop_length, List.nil_append, h1]
theorem sav_mid {mm : List Int} {k n : Nat} {x : Int} (h : k + n ≤ mm.length) : ((sav mm k n x).drop k).take n = bys n x := by
  unfold sav
  have h1 : (mm.take k).length = k := by simp; omega
  rw [List.append_assoc]
  have h2 : (mm.take k ++ (bys n x ++ mm.drop (k + n))).drop k = bys n x ++ mm.drop (k + n) := by
    conv => lhs; rw [← h1]
    rw [h1]
    exact List.drop_left' h1
  rw [h2, List.take_append_of_le_length (by rw [bys_len]; omega), List.take_of_length_le (by rw [bys_len]; omega)]

/-- The law's program. -/
def sp (x a : Int) (data : List Int) (n : Nat) : Im.Pic := ⟨data.length, 0, 0, data, [0], [⟨1, 1, 0, 0, x⟩, ⟨1, 2, 0, 0, a⟩, ⟨18, 1, 2, n, 0⟩, ⟨17, 3, 2, n, 0⟩, Im.z5]⟩
theorem sp_bad {x a : Int} {data : List Int} {n : Nat} (hn : n = 1 ∨ n = 2 ∨ n = 4 ∨ n = 8) : ∀ j, j < 5 → Im.bad5 ((sp x a data n).cs.getD j Im.z5) = -1 := fun j hj => by
  match j, hj with
  | 0, _ => simp [sp, Im.bad5, Cd.bad, Cd.exi, Cd.mp, Cd.mi, Cd.ka, Cd.kb, Cd.kc, Cd.ki, Cd.kA, Cd.kB, Cd.kC, Cd.kI]
  | 1, _ => simp [sp, Im.bad5, Cd.bad, Cd.exi, Cd.mp, Cd.mi, Cd.ka, Cd.kb, Cd.kc, Cd.ki, Cd.kA, Cd.kB, Cd.kC, Cd.kI]
  | 2, _ =>
    rcases hn with rfl | rfl | rfl | rfl
    · show Cd.bad 18 1 2 1 0 = -1; decide +kernel
    · show Cd.bad 18 1 2 2 0 = -1; decide +kernel
    · show Cd.bad 18 1 2 4 0 = -1; decide +kernel
    · show Cd.bad 18 1 2 8 0 = -1; decide +kernel
  | 3, _ =>
    rcases hn with rfl | rfl | rfl | rfl
    · show Cd.bad 17 3 2 1 0 = -1; decide +kernel
    · show Cd.bad 17 3 2 2 0 = -1; decide +kernel
    · show Cd.bad 17 3 2 4 0 = -1; decide +kernel
    · show Cd.bad 17 3 2 8 0 = -1; decide +kernel
  | 4, _ => show Cd.bad 0 0 0 0 0 = -1; decide +kernel
theorem sp_pl : Im.Places [0] 5 := by decide +kernel
theorem sp_R {x a : Int} {data : List Int} {n : Nat} (hn : n = 1 ∨ n = 2 ∨ n = 4 ∨ n = 8) (hd : data.length ≤ 64) : R (sp x a data n) := by
  have hC : Im.Cnt (sp x a data n) := ⟨by simp [sp]; omega, by simp [sp], by simp [sp], by simp [sp], by simp [sp], by simp [sp], sp_pl⟩
  have hE : Im.firstE (sp x a data n).cs = 0 := Im.firstE_none _ fun j hj => sp_bad hn j (by simpa [sp] using hj)
  have hS : ¬ Im.stray (sp x a data n).fs (sp x a data n).cs < (sp x a data n).cs.length := by
    rw [Im.stray_none]
    · exact Nat.lt_irrefl _
    · intro j hj
      have hj : j < 5 := by simpa [sp] using hj
      have ho : Im.own [0] 5 (j : Int) = 0 := Im.own_eq sp_pl (by decide) (by simp) (by rw [Im.till_last (by decide)]; omega)
      have ht : Im.till [0] 5 0 = 5 := Im.till_last (by decide)
      unfold Im.okB
      show (Im.leads ((sp x a data n).cs.getD j Im.z5) ([0].getD (Im.own [0] 5 (j : Int)) 0) (Im.till [0] 5 (Im.own [0] 5 (j : Int))) 1 && !(Cd.goes ((sp x a data n).cs.getD j Im.z5).op && decide ((j : Int) + 1 = Im.till [0] 5 (Im.own [0] 5 (j : Int))))) = true
      rw [ho, ht]
      match j, hj with
      | 0, _ => simp [sp, Im.leads]
      | 1, _ => simp [sp, Im.leads]
      | 2, _ => simp [sp, Im.leads]
      | 3, _ => simp [sp, Im.leads]
      | 4, _ => simp [sp, Im.leads, Im.z5, Cd.goes]
  unfold R Im.chk
  rw [if_pos hC, if_pos hE, if_neg hS]

theorem sp_step0 {x a : Int} {data m : List Int} {n : Nat} : step (sp x a data n) [] ⟨0, [0, 0, 0, 0, 0, 0, 0, 0], m, []⟩ = (⟨1, [0, x, 0, 0, 0, 0, 0, 0], m, []⟩, 0) := by simp [step, ins, sp, act, wr]
theorem sp_step1 {x a : Int} {data m : List Int} {n : Nat} : step (sp x a data n) [] ⟨1, [0, x, 0, 0, 0, 0, 0, 0], m, []⟩ = (⟨2, [0, x, a, 0, 0, 0, 0, 0], m, []⟩, 0) := by simp [step, ins, sp, act, wr]
theorem sp_ad {x a z : Int} {m : List Int} {op c r : Int} {pl : Int} (a0 : 0 ≤ a) (a1 : a < 18446744073709551616) : ad ⟨pl, [0, x, a, z, 0, 0, 0, 0], m, []⟩ ⟨op, r, 2, c, 0⟩ = a := by
  simp [ad, rv]; omega
theorem sp_step2 {x a : Int} {data m : List Int} {n : Nat} (a0 : 0 ≤ a) (a1 : a < 18446744073709551616) (h : a + n ≤ m.length) : step (sp x a data n) [] ⟨2, [0, x, a, 0, 0, 0, 0, 0], m, []⟩ = (⟨3, [0, x, a, 0, 0, 0, 0, 0], sav m a.toNat n x, []⟩, 0) := by
  have e := sp_ad (x := x) (z := 0) (m := m) (op := 18) (c := n) (r := 1) (pl := 2) a0 a1
  have ht : there ⟨2, [0, x, a, 0, 0, 0, 0, 0], m, []⟩ ⟨18, 1, 2, n, 0⟩ = true := by unfold there; rw [e]; exact decide_eq_true h
  have hi : ins (sp x a data n) ⟨2, [0, x, a, 0, 0, 0, 0, 0], m, []⟩ = ⟨18, 1, 2, n, 0⟩ := by simp [ins, sp]
  unfold step
  rw [hi]
  simp [act, ht, e, rv]
theorem sp_step2' {x a : Int} {data m : List Int} {n : Nat} (a0 : 0 ≤ a) (a1 : a < 18446744073709551616) (h : ¬ a + n ≤ m.length) : step (sp x a data n) [] ⟨2, [0, x, a, 0, 0, 0, 0, 0], m, []⟩ = (⟨2, [0, x, a, 0, 0, 0, 0, 0], m, []⟩, 2) := by
  have e := sp_ad (x := x) (z := 0) (m := m) (op := 18) (c := n) (r := 1) (pl := 2) a0 a1
  have ht : there ⟨2, [0, x, a, 0, 0, 0, 0, 0], m, []⟩ ⟨18, 1, 2, n, 0⟩ = false := by unfold there; rw [e]; exact decide_eq_false h
  have hi : ins (sp x a data n) ⟨2, [0, x, a, 0, 0, 0, 0, 0], m, []⟩ = ⟨18, 1, 2, n, 0⟩ := by simp [ins, sp]
  unfold step
  rw [hi]
  simp [act, ht]
theorem sp_step3 {x a : Int} {data m : List Int} {n : Nat} (a0 : 0 ≤ a) (a1 : a < 18446744073709551616) (h : a + n ≤ m.length) : step (sp x a data n) [] ⟨3, [0, x, a, 0, 0, 0, 0, 0], m, []⟩ = (⟨4, [0, x, a, le ((m.drop a.toNat).take n), 0, 0, 0, 0], m, []⟩, 0) := by
  have e := sp_ad (x := x) (z := 0) (m := m) (op := 17) (c := n) (r := 3) (pl := 3) a0 a1
  have ht : there ⟨3, [0, x, a, 0, 0, 0, 0, 0], m, []⟩ ⟨17, 3, 2, n, 0⟩ = true := by unfold there; rw [e]; exact decide_eq_true h
  have hi : ins (sp x a data n) ⟨3, [0, x, a, 0, 0, 0, 0, 0], m, []⟩ = ⟨17, 3, 2, n, 0⟩ := by simp [ins, sp]
  unfold step
  rw [hi]
  simp [act, ht, lod, e, wr]
theorem sp_step4 {x a z : Int} {data m : List Int} {n : Nat} : step (sp x a data n) [] ⟨4, [0, x, a, z, 0, 0, 0, 0], m, []⟩ = (⟨4, [0, x, a, z, 0, 0, 0, 0], m, []⟩, 1) := by simp [step, ins, sp, act, Im.z5]
theorem sp_start {x a : Int} {data : List Int} {n : Nat} : start (sp x a data n) = ⟨0, [0, 0, 0, 0, 0, 0, 0, 0], data, []⟩ := by simp [start, sp, List.replicate]
theorem sp_out {x a : Int} {data : List Int} {n : Nat} (hn : n = 1 ∨ n = 2 ∨ n = 4 ∨ n = 8) (hd : data.length ≤ 64) (a0 : 0 ≤ a) (a1 : a < 18446744073709551616) (h : ¬ a + n ≤ data.length) : answer (sp x a data n) [] 10 = ([0, 1, 2], 2, [0, x, a, 0, 0, 0, 0, 0], data, 0) := by
  have hR := sp_R (x := x) (a := a) hn hd
  have hg : run (sp x a data n) [] 10 = ([0, 1, 2], ⟨2, [0, x, a, 0, 0, 0, 0, 0], data, []⟩, 2) := by
    show go (sp x a data n) [] 10 (start (sp x a data n)) [0] = _
    rw [sp_start, go, sp_step0, if_pos rfl, go, sp_step1, if_pos rfl, go, sp_step2' a0 a1 h]
    rfl
  unfold answer
  rw [if_neg (fun e => e hR), if_neg (by simp [sp]), hg]
theorem sp_in {x a : Int} {data : List Int} {n : Nat} (hn : n = 1 ∨ n = 2 ∨ n = 4 ∨ n = 8) (hd : data.length ≤ 64) (a0 : 0 ≤ a) (a1 : a < 18446744073709551616) (h : a + n ≤ data.length) : answer (sp x a data n) [] 10 = ([0, 1, 2, 3, 4], 1, [0, x, a, x % 256 ^ n, 0, 0, 0, 0], sav data a.toNat n x, 0) := by
  have hR := sp_R (x := x) (a := a) hn hd
  have hk : a.toNat + n ≤ data.length := by omega
  have hg : run (sp x a data n) [] 10 = ([0, 1, 2, 3, 4], ⟨4, [0, x, a, x % 256 ^ n, 0, 0, 0, 0], sav data a.toNat n x, []⟩, 1) := by
    show go (sp x a data n) [] 10 (start (sp x a data n)) [0] = _
    rw [sp_start, go, sp_step0, if_pos rfl, go, sp_step1, if_pos rfl, go, sp_step2 a0 a1 h, if_pos rfl, go, sp_step3 a0 a1 (by rw [sav_len hk]; exact h), if_pos rfl, go, sp_step4, sav_mid hk, le_bys]
    rfl
  unfold answer
  rw [if_neg (fun e => e hR), if_neg (by simp [sp]), hg]
end Mc
end Go.Proofs.YthkhadbeomkihaaDoor
