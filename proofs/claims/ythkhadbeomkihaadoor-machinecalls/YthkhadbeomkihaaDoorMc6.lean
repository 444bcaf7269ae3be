/-
  through, with load's and with save's closure; load and save.
-/
import Derived.Test.YthkhadbeomkihaaDoorMc5
import Derived.Test.YthkhadbeomkihaaDoorMcPl
namespace Go.Proofs.YthkhadbeomkihaaDoor
set_option maxRecDepth 100000
open Go.RowKit

namespace Mc
theorem le_take : ∀ (l : List Int) (q : Nat), q < l.length → le (l.take (q + 1)) = le (l.take q) + l.getD q 0 * 256 ^ q
  | [], q, h => absurd h (by simp)
  | b :: r, 0, _ => by simp [le]
  | b :: r, q + 1, h => by
    rw [List.take_succ_cons, List.take_succ_cons, List.getD_cons_succ]
    simp only [le]
    rw [le_take r q (by simpa using h), Int.pow_succ, Int.mul_add]
    have : 256 * (r.getD q 0 * 256 ^ q) = r.getD q 0 * (256 ^ q * 256) := by rw [← Int.mul_assoc, Int.mul_comm 256, Int.mul_assoc, Int.mul_comm 256]
    omega
end Mc
theorem wrap_u64_small {x : Int} (h0 : 0 ≤ x) (h1 : x < 18446744073709551616) : IntKind.u64.wrap x = x := by rw [IntKind.wrap_u64]; omega
abbrev LdV (X R : Nat) : Value := .func (.func 92) #[] #[.pointer (some ⟨X, 0, none⟩), .pointer (some ⟨R, 0, none⟩)]

set_option maxRecDepth 20000 in
set_option maxHeartbeats 3200000 in
theorem through_load (g b X R mb k cn : Nat) (op a c m x : Int) (zs : List Int) (cs : Array Value) (w : World) (n cap : Nat) (hb : RnB w g cs) (hl : b < 8) (hx : cs[8 + b]? = some (.int .u64 x)) (hm : cs[16]? = some (.slice (some ⟨mb, 0, none⟩) n cap)) (hn : n ≤ maxLen) (hc : c = cn) (c1 : cn ≤ 8)
    (hk : (x + m) % 18446744073709551616 = k) (h : k + cn ≤ n) (hzl : zs.length = cn) (hz : ∀ q, q < cn → w.cell? ⟨mb, k + q, none⟩ = some (.int .u8 (zs.getD q 0))) (hzr : ∀ z ∈ zs, 0 ≤ z ∧ z ≤ 255)
    (hX : w.heap[X]? = some (.cells #[.int .u64 0] 29 (0, 0))) (hR : w.cell? ⟨R, 0, none⟩ = some (.pointer (some ⟨g, 0, none⟩))) (hXg : X ≠ g) (hXm : X ≠ mb) (hXR : X ≠ R) :
    Calls Tryd.prog 91 #[.pointer (some ⟨g, 0, none⟩), .agg #[.int .i64 op, .int .i64 a, .int .i64 b, .int .i64 c, .int .u64 m], LdV X R] w fun e w' => e = .returned (.bool true) ∧ w'.heap[X]? = some (.cells #[.int .u64 (Mc.le zs)] 29 (0, 0)) ∧ Fr X none none w w' := by
  unfold maxLen at hn
  subst hc
  have e1 : IntKind.u64.wrap (n : Int) = n := by rw [IntKind.wrap_u64]; omega
  have e2 : IntKind.u64.wrap (x + m) = (k : Int) := by rw [IntKind.wrap_u64]; exact hk
  have e3 : IntKind.u64.wrap (cn : Int) = cn := by rw [IntKind.wrap_u64]; omega
  have E2 := Lib.hid e2
  have HMB := Lib.hid hb
  have HM := Lib.hid hm
  have HXX := Lib.hid hX
  have HRR := Lib.hid hR
  have HZS := Lib.hid hz
  have HZR := Lib.hid hzr
  have HXR := Lib.hid hXR
  have HXM := Lib.hid hXm
  have HXG := Lib.hid hXg
  have HZL := Lib.hid hzl
  clear e2 hX hR hz hk hzr hXR hXm hXg hzl
  have hf1 : (w.alloc (.cells #[.int .i64 op, .int .i64 a, .int .i64 b, .int .i64 (cn : Int), .int .u64 m] 59)).cell? ⟨w.heap.size, 0, none⟩ = some (.int .i64 op) ∧ (w.alloc (.cells #[.int .i64 op, .int .i64 a, .int .i64 b, .int .i64 (cn : Int), .int .u64 m] 59)).cell? ⟨w.heap.size, 1, none⟩ = some (.int .i64 a) ∧ (w.alloc (.cells #[.int .i64 op, .int .i64 a, .int .i64 b, .int .i64 (cn : Int), .int .u64 m] 59)).cell? ⟨w.heap.size, 2, none⟩ = some (.int .i64 b) ∧ (w.alloc (.cells #[.int .i64 op, .int .i64 a, .int .i64 b, .int .i64 (cn : Int), .int .u64 m] 59)).cell? ⟨w.heap.size, 3, none⟩ = some (.int .i64 (cn : Int)) ∧ (w.alloc (.cells #[.int .i64 op, .int .i64 a, .int .i64 b, .int .i64 (cn : Int), .int .u64 m] 59)).cell? ⟨w.heap.size, 4, none⟩ = some (.int .u64 m) := by simp
  have h16 : (w.alloc (.cells #[.int .i64 op, .int .i64 a, .int .i64 b, .int .i64 (cn : Int), .int .u64 m] 59)).cell? ⟨g, 16, none⟩ = some (.slice (some ⟨mb, 0, none⟩) n cap) := hb.cA hm _
  have hR1 : RnB (w.alloc (.cells #[.int .i64 op, .int .i64 a, .int .i64 b, .int .i64 (cn : Int), .int .u64 m] 59)) g cs := hb.box _
  have hB : Below w.heap.size w (w.alloc (.cells #[.int .i64 op, .int .i64 a, .int .i64 b, .int .i64 (cn : Int), .int .u64 m] 59)) := Below.box _ _
  have hzz : (w.alloc (.cells #[.int .i64 op, .int .i64 a, .int .i64 b, .int .i64 (cn : Int), .int .u64 m] 59)).heap.size = w.heap.size + 1 := by simp
  have hg : g < (w.alloc (.cells #[.int .i64 op, .int .i64 a, .int .i64 b, .int .i64 (cn : Int), .int .u64 m] 59)).heap.size := hR1.lt
  have HF := Lib.hid hf1
  have H16 := Lib.hid h16
  have HR := Lib.hid hR1
  have HB := Lib.hid hB
  have HZ := Lib.hid hzz
  have HG := Lib.hid hg
  have HX := Lib.hid hx
  clear hf1 h16 hR1 hB hzz hg hb hm hx
  go_enter Tryd.func91, Tryd.ntmps91
  go_wp2_with fail
  generalize w.alloc (.cells #[.int .i64 op, .int .i64 a, .int .i64 b, .int .i64 (cn : Int), .int .u64 m] 59) = w1 at *
  refine wp_region_held_drew (S := fun W => Below w1.heap.size w1 W) (by kernel_rfl) (Below.refl _ _).drew (fun hHeld => ?_)
  refine wpAnyH_take (i := 0) (v := .pointer (some ⟨g, 0, none⟩)) rfl (by kernel_rfl) (by kernel_rfl) (by kernel_rfl) (fun _ _ _ h => h) (Or.inl ⟨by rfl, fun w9 hSw => ?_⟩) hHeld ?_
  · (try dsimp only at hSw)
    go_simp
  try simp only [List.getElem_toArray, List.getElem_cons_succ, List.getElem_cons_zero, Act.put, List.setIfInBounds_toArray, List.set_cons_zero, List.set_cons_succ]
  refine wpAnyH_take (i := 1) (v := .agg #[.int .i64 op, .int .i64 a, .int .i64 b, .int .i64 (cn : Int), .int .u64 m]) rfl (by kernel_rfl) (by kernel_rfl) (by kernel_rfl) (fun _ _ _ h => h) (Or.inl ⟨by rfl, fun w9 hSw => ?_⟩) hHeld ?_
  · (try dsimp only at hSw)
    have q0 := cells_below hSw HF.out.1 (by simp [HZ.out])
    have q1 := cells_below hSw HF.out.2.1 (by simp [HZ.out])
    have q2 := cells_below hSw HF.out.2.2.1 (by simp [HZ.out])
    have q3 := cells_below hSw HF.out.2.2.2.1 (by simp [HZ.out])
    have q4 := cells_below hSw HF.out.2.2.2.2 (by simp [HZ.out])
    go_simp
  try simp only [List.getElem_toArray, List.getElem_cons_succ, List.getElem_cons_zero, Act.put, List.setIfInBounds_toArray, List.set_cons_zero, List.set_cons_succ]
  refine wpAnyH_take (i := 3) (v := .pointer (some ⟨g, 0, none⟩)) rfl (by kernel_rfl) (by kernel_rfl) (by kernel_rfl) (fun _ _ _ h => h) (Or.inl ⟨by rfl, fun w9 hSw => ?_⟩) hHeld ?_
  · (try dsimp only at hSw)
    go_simp
  try simp only [List.getElem_toArray, List.getElem_cons_succ, List.getElem_cons_zero, Act.put, List.setIfInBounds_toArray, List.set_cons_zero, List.set_cons_succ]
  refine wpAnyH_take (i := 4) (v := .pointer (some ⟨g, 0, none⟩)) rfl (by kernel_rfl) (by kernel_rfl) (by kernel_rfl) (fun _ _ _ h => h) (Or.inl ⟨by rfl, fun w9 hSw => ?_⟩) hHeld ?_
  · (try dsimp only at hSw)
    go_simp
  try simp only [List.getElem_toArray, List.getElem_cons_succ, List.getElem_cons_zero, Act.put, List.setIfInBounds_toArray, List.set_cons_zero, List.set_cons_succ]
  refine wpAnyH_take (i := 5) (v := .pointer (some ⟨g, 7, none⟩)) rfl (by kernel_rfl) (by kernel_rfl) (by kernel_rfl) (fun _ _ _ h => h) (Or.inl ⟨by rfl, fun w9 hSw => ?_⟩) hHeld ?_
  · (try dsimp only at hSw)
    go_simp
  try simp only [List.getElem_toArray, List.getElem_cons_succ, List.getElem_cons_zero, Act.put, List.setIfInBounds_toArray, List.set_cons_zero, List.set_cons_succ]
  refine wpAnyH_take (i := 6) (v := .pointer (some ⟨g, 16, none⟩)) rfl (by kernel_rfl) (by kernel_rfl) (by kernel_rfl) (fun _ _ _ h => h) (Or.inl ⟨by rfl, fun w9 hSw => ?_⟩) hHeld ?_
  · (try dsimp only at hSw)
    go_simp
  try simp only [List.getElem_toArray, List.getElem_cons_succ, List.getElem_cons_zero, Act.put, List.setIfInBounds_toArray, List.set_cons_zero, List.set_cons_succ]
  refine wpAnyH_take (i := 7) (v := .slice (some ⟨mb, 0, none⟩) n cap) rfl (by kernel_rfl) (by kernel_rfl) (by kernel_rfl) (fun _ _ _ h => h) (Or.inl ⟨by rfl, fun w9 hSw => ?_⟩) hHeld ?_
  · (try dsimp only at hSw)
    have q16 := cells_below hSw H16.out HG.out
    go_simp
  try simp only [List.getElem_toArray, List.getElem_cons_succ, List.getElem_cons_zero, Act.put, List.setIfInBounds_toArray, List.set_cons_zero, List.set_cons_succ]
  refine wpAnyH_take (i := 8) (v := .int .i64 n) rfl (by kernel_rfl) (by kernel_rfl) (by kernel_rfl) (fun _ _ _ h => h) (Or.inl ⟨by rfl, fun w9 hSw => ?_⟩) hHeld ?_
  · (try dsimp only at hSw)
    go_simp
  try simp only [List.getElem_toArray, List.getElem_cons_succ, List.getElem_cons_zero, Act.put, List.setIfInBounds_toArray, List.set_cons_zero, List.set_cons_succ]
  refine wpAnyH_take (i := 9) (v := .int .u64 n) rfl (by kernel_rfl) (by kernel_rfl) (by kernel_rfl) (fun _ _ _ h => h) (Or.inl ⟨by rfl, fun w9 hSw => ?_⟩) hHeld ?_
  · (try dsimp only at hSw)
    go_simp
  try simp only [List.getElem_toArray, List.getElem_cons_succ, List.getElem_cons_zero, Act.put, List.setIfInBounds_toArray, List.set_cons_zero, List.set_cons_succ]
  refine wpAnyH_ready (rs := [2]) (by kernel_rfl) (by simp) ?_
  refine (AllReadyH.cons rfl (fun K hK => ?_) AllReadyH.nil)
  go_simp
  go_at_call 94
  refine (address_any g b op a cn m x cs _ HR.out.drew HX.out hl).mono ?_
  rintro e v ⟨rfl, hbv⟩
  refine hK.out _ _ ((Below.refl _ _).drew.trans hbv) (fun hHeld => ?_)
  clear hK K
  try simp only [List.getElem_toArray, List.getElem_cons_succ, List.getElem_cons_zero, Act.put, List.setIfInBounds_toArray, List.set_cons_zero, List.set_cons_succ]
  refine wpAnyH_take (i := 10) (v := .int .u64 (IntKind.u64.wrap (x + m))) rfl (by kernel_rfl) (by kernel_rfl) (by kernel_rfl) (fun _ _ _ h => h) (Or.inl ⟨by rfl, fun w9 hSw => ?_⟩) hHeld ?_
  · (try dsimp only at hSw)
    go_simp
  try simp only [List.getElem_toArray, List.getElem_cons_succ, List.getElem_cons_zero, Act.put, List.setIfInBounds_toArray, List.set_cons_zero, List.set_cons_succ]
  refine wpAnyH_take (i := 11) (v := .int .u64 n) rfl (by kernel_rfl) (by kernel_rfl) (by kernel_rfl) (fun _ _ _ h => h) (Or.inl ⟨by rfl, fun w9 hSw => ?_⟩) hHeld ?_
  · (try dsimp only at hSw)
    go_simp
  try simp only [List.getElem_toArray, List.getElem_cons_succ, List.getElem_cons_zero, Act.put, List.setIfInBounds_toArray, List.set_cons_zero, List.set_cons_succ]
  refine wpAnyH_done (by kernel_rfl) ?_ _
  rw [E2.out]
  have hbv' : Below w1.heap.size w1 v := hHeld
  have q3 := cells_below hbv' HF.out.2.2.2.1 (by simp [HZ.out])
  have hBv : Below w.heap.size w v := HB.out.trans (hbv'.mono (by simp [HZ.out]))
  have HH := Lib.hid hBv
  clear hHeld hbv' hbv hBv
  have hgt : ¬ (n : Int) < k := by omega
  have e4 : IntKind.u64.wrap ((n : Int) - k) = n - k := by rw [IntKind.wrap_u64]; omega
  have hlt : ¬ (n : Int) - k < cn := by omega
  have hXl : X < w.heap.size := by
    rcases Nat.lt_or_ge X w.heap.size with h1 | h1
    · exact h1
    · have := HXX.out; rw [Array.getElem?_eq_none h1] at this; cases this
  go_wp2
  go_loopw [9, 34] (fun _ i wr => ∃ q : Nat, q ≤ cn ∧ i = .int .i64 q ∧ wr.heap[X]? = some (.cells #[.int .u64 (Mc.le (zs.take q))] 29 (0, 0)) ∧ Fr X none none w wr) (fun _ i _ => cn - (intOf i).toNat)
  case atStart => exact ⟨0, by omega, rfl, ((HH.out.block X hXl).trans HXX.out).trans (by simp [Mc.le]), Fr.of_below HH.out⟩
  case round =>
    obtain ⟨q, hq, rfl, hXq, hfr⟩ := hrel
    have HXQ := Lib.hid hXq
    have HFR := Lib.hid hfr
    clear hXq hfr
    by_cases hqc : q < cn
    · have hql : (q : Int) < cn := by omega
      have e5 : IntKind.u64.wrap (q : Int) = q := by rw [IntKind.wrap_u64]; omega
      have e6 : IntKind.u64.wrap ((k : Int) + q) = ((k + q : Nat) : Int) := by rw [IntKind.wrap_u64]; omega
      have e7 : IntKind.i64.wrap (8 * (q : Int)) = 8 * q := by rw [IntKind.wrap_i64]; omega
      have old : ∀ (B i : Nat), B < w.heap.size → X ≠ B → wr.cell? ⟨B, i, none⟩ = w.cell? ⟨B, i, none⟩ := fun B i h1 h2 => World.cell?_of_block (HFR.out.block B h1 (Ne.symm h2) (by simp) (by simp))
      have hml : mb < w.heap.size := World.block_lt_of_cell? _ _ (HZS.out q hqc)
      have hRl : R < w.heap.size := World.block_lt_of_cell? _ _ HRR.out
      have cX : wr.cell? ⟨X, 0, none⟩ = some (.int .u64 (Mc.le (zs.take q))) := by rw [cell_of_row _ _ _ _ _ _ HXQ.out]; rfl
      have cR := (old R 0 hRl HXR.out).trans HRR.out
      have cM := (old g 16 HMB.out.lt HXG.out).trans ((HMB.out.c 16).trans HM.out)
      have cZ := (old mb (k + q) hml HXM.out).trans (HZS.out q hqc)
      have hqz : q < zs.length := by have := HZL.out; omega
      have hzm : zs.getD q 0 ∈ zs := by rw [List.getD_eq_getElem?_getD, List.getElem?_eq_getElem hqz]; exact List.getElem_mem hqz
      have hzb := HZR.out _ hzm
      have hlr := Mc.le_rng (zs.take q) fun y hy => HZR.out y (List.mem_of_mem_take hy)
      rw [List.length_take, Nat.min_eq_left (by omega)] at hlr
      have hcl := load_clo g X R mb cap n (k + q) q (Mc.le (zs.take q)) (zs.getD q 0) wr cX cR cM (by omega) (by unfold maxLen; omega) cZ (Joins.unfrozen_of_block HXQ.out 0) (by omega) hlr.1 hlr.2 hzb.1 hzb.2
      rw [← Mc.le_take zs q hqz] at hcl
      have HCL := Lib.hid hcl
      clear old cX cR cM cZ hzm hzb hlr hcl
      go_wp2_with (go_at_call 92; refine HCL.out.mono ?_; rintro e v2 ⟨rfl, rfl⟩)
      go_roundw
      case rel =>
        refine ⟨q + 1, by omega, by go_num, ?_, ?_⟩
        · exact Joins.block_setCell HXQ.out _
        · exact HFR.out.trans (Fr.set _ _ _).drew
      case measure => simp [intOf]; omega
    · have hqe : q = cn := by omega
      have HQE := Lib.hid hqe
      have hql : ¬ (q : Int) < cn := by omega
      clear hqe
      go_wp2
      go_ret
      have hta : zs.take q = zs := List.take_of_length_le (by have := HQE.out; have := HZL.out; omega)
      exact ⟨rfl, by rw [← hta]; exact HXQ.out, HFR.out⟩
end Go.Proofs.YthkhadbeomkihaaDoor
