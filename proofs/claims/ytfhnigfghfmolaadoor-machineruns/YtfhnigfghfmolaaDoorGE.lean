/-
  through with save's closure; load and save.
  Contracts of save.
  The runner as a whole: its block, its memory, its open places; what every action does.
  What every action of the runner does.
-/
import Derived.Test.YtfhnigfghfmolaaDoorGD
set_option linter.unusedSimpArgs false
set_option linter.unusedVariables false
namespace Go.Proofs.YtfhnigfghfmolaaDoor
set_option maxRecDepth 100000
open Go.RowKit

abbrev SvV (X R : Nat) : Value := .func (.func 93) #[] #[.pointer (some ⟨X, 0, none⟩), .pointer (some ⟨R, 0, none⟩)]
theorem heap_newM {w : World} {o : Obj} {k : Nat} (h : k = w.heap.size) : (w.alloc o).heap[k]? = some o := by subst h; exact heap_alloc_new w o
theorem three (w : World) (o1 o2 o3 : Obj) : (((w.alloc o1).alloc o2).alloc o3).heap[w.heap.size]? = some o1 ∧ (((w.alloc o1).alloc o2).alloc o3).heap[w.heap.size + 1]? = some o2 ∧ (((w.alloc o1).alloc o2).alloc o3).heap[w.heap.size + 1 + 1]? = some o3 := by
  have h1 : (w.alloc o1).heap.size = w.heap.size + 1 := by simp
  have h2 : ((w.alloc o1).alloc o2).heap.size = w.heap.size + 1 + 1 := by simp
  have e0 : ∀ (k : Nat) (u : World) (o : Obj), k < u.heap.size → (u.alloc o).heap[k]? = u.heap[k]? := fun k u o hk => (Below.box u o).block k hk
  exact ⟨(e0 _ _ _ (by omega)).trans ((e0 _ _ _ (by omega)).trans (heap_newM rfl)), (e0 _ _ _ (by omega)).trans (heap_newM h1.symm), heap_newM h2.symm⟩
theorem row_cell {w : World} {b : Nat} {cs : Array Value} {t : TypeId} (h : w.heap[b]? = some (.cells cs t (0, 0))) (i : Nat) : w.cell? ⟨b, i, none⟩ = cs[i]? := cell_of_row _ _ _ _ _ _ h
/-- So many bytes of a number stored into a row of values. -/
def svA : Nat → Array Value → Nat → Int → Array Value
  | 0, cur, _, _ => cur
  | q + 1, cur, k, x => (svA q cur k x).setIfInBounds (k + q) (.int .u8 (x / 256 ^ q % 256))
theorem svA_past : ∀ (q : Nat) (cur : Array Value) (k : Nat) (x : Int) (i : Nat), k + q ≤ i → (svA q cur k x)[i]? = cur[i]?
  | 0, _, _, _, _, _ => rfl
  | q + 1, cur, k, x, i, h => by
    unfold svA
    rw [Array.getElem?_setIfInBounds_ne (by omega)]
    exact svA_past q cur k x i (by omega)
theorem svA_size : ∀ (q : Nat) (cur : Array Value) (k : Nat) (x : Int), (svA q cur k x).size = cur.size
  | 0, _, _, _ => rfl
  | q + 1, cur, k, x => by unfold svA; rw [Array.size_setIfInBounds]; exact svA_size q cur k x

set_option maxRecDepth 20000 in
set_option maxHeartbeats 3200000 in
theorem through_save (g b X R mb k cn : Nat) (op a c m x y : Int) (cur : Array Value) (cs : Array Value) (w : World) (n cap : Nat) (hb : RnB w g cs) (hl : b < 8) (hx : cs[8 + b]? = some (.int .u64 x)) (hm : cs[16]? = some (.slice (some ⟨mb, 0, none⟩) n cap)) (hn : n ≤ maxLen) (hc : c = cn) (c1 : cn ≤ 8)
    (hk : (x + m) % 18446744073709551616 = k) (h : k + cn ≤ n) (hM : w.heap[mb]? = some (.cells cur 5 (0, 0))) (hz : ∀ q, q < n → ∃ z, cur[q]? = some (.int .u8 z)) (y0 : 0 ≤ y) (y1 : y < 18446744073709551616)
    (hX : w.cell? ⟨X, 0, none⟩ = some (.int .u64 y)) (hR : w.cell? ⟨R, 0, none⟩ = some (.pointer (some ⟨g, 0, none⟩))) (hmg : mb ≠ g) (hmX : mb ≠ X) (hmR : mb ≠ R) :
    Calls Tryd.prog 91 #[.pointer (some ⟨g, 0, none⟩), .agg #[.int .i64 op, .int .i64 a, .int .i64 b, .int .i64 c, .int .u64 m], SvV X R] w fun e w' => e = .returned (.bool true) ∧ w'.heap[mb]? = some (.cells (svA cn cur k y) 5 (0, 0)) ∧ Fr mb none none w w' := by
  unfold maxLen at hn
  subst hc
  have e1 : IntKind.u64.wrap (n : Int) = n := by rw [IntKind.wrap_u64]; omega
  have e2 : IntKind.u64.wrap (x + m) = (k : Int) := by rw [IntKind.wrap_u64]; exact hk
  have e3 : IntKind.u64.wrap (cn : Int) = cn := by rw [IntKind.wrap_u64]; omega
  have E2 := Lib.hid e2
  have HMB := Lib.hid hb
  have HM := Lib.hid hm
  have HXX := Lib.hid hX
  have HRR := Lib.hid hR
  have HZS := Lib.hid hz
  have HMM := Lib.hid hM
  have HXR := Lib.hid hmR
  have HXM := Lib.hid hmX
  have HXG := Lib.hid hmg
  have HY := Lib.hid (And.intro y0 y1)
  clear e2 hX hR hz hk hM hmR hmX hmg y0 y1
  have hf1 : (w.alloc (.cells #[.int .i64 op, .int .i64 a, .int .i64 b, .int .i64 (cn : Int), .int .u64 m] 59)).cell? ⟨w.heap.size, 0, none⟩ = some (.int .i64 op) ∧ (w.alloc (.cells #[.int .i64 op, .int .i64 a, .int .i64 b, .int .i64 (cn : Int), .int .u64 m] 59)).cell? ⟨w.heap.size, 1, none⟩ = some (.int .i64 a) ∧ (w.alloc (.cells #[.int .i64 op, .int .i64 a, .int .i64 b, .int .i64 (cn : Int), .int .u64 m] 59)).cell? ⟨w.heap.size, 2, none⟩ = some (.int .i64 b) ∧ (w.alloc (.cells #[.int .i64 op, .int .i64 a, .int .i64 b, .int .i64 (cn : Int), .int .u64 m] 59)).cell? ⟨w.heap.size, 3, none⟩ = some (.int .i64 (cn : Int)) ∧ (w.alloc (.cells #[.int .i64 op, .int .i64 a, .int .i64 b, .int .i64 (cn : Int), .int .u64 m] 59)).cell? ⟨w.heap.size, 4, none⟩ = some (.int .u64 m) := by simp
  have h16 : (w.alloc (.cells #[.int .i64 op, .int .i64 a, .int .i64 b, .int .i64 (cn : Int), .int .u64 m] 59)).cell? ⟨g, 16, none⟩ = some (.slice (some ⟨mb, 0, none⟩) n cap) := hb.cA hm _
  have hR1 : RnB (w.alloc (.cells #[.int .i64 op, .int .i64 a, .int .i64 b, .int .i64 (cn : Int), .int .u64 m] 59)) g cs := hb.box _
  have hB : Below w.heap.size w (w.alloc (.cells #[.int .i64 op, .int .i64 a, .int .i64 b, .int .i64 (cn : Int), .int .u64 m] 59)) := Below.box _ _
  have hzz : (w.alloc (.cells #[.int .i64 op, .int .i64 a, .int .i64 b, .int .i64 (cn : Int), .int .u64 m] 59)).heap.size = w.heap.size + 1 := by simp
  have hg : g < (w.alloc (.cells #[.int .i64 op, .int .i64 a, .int .i64 b, .int .i64 (cn : Int), .int .u64 m] 59)).heap.size := hR1.lt
  have HF := Lib.hid hf1
  have H16 := Lib.hid h16
  have HR := Lib.hid hR1
  have HB := Lib.hid hB
  have HZ := Lib.hid hzz
  have HG := Lib.hid hg
  have HX := Lib.hid hx
  clear hf1 h16 hR1 hB hzz hg hb hm hx
  go_enter Tryd.func91, Tryd.ntmps91
  go_wp2_with fail
  generalize w.alloc (.cells #[.int .i64 op, .int .i64 a, .int .i64 b, .int .i64 (cn : Int), .int .u64 m] 59) = w1 at *
  refine wp_region_held_drew (S := fun W => Below w1.heap.size w1 W) (by kernel_rfl) (Below.refl _ _).drew (fun hHeld => ?_)
  refine wpAnyH_take (i := 0) (v := .pointer (some ⟨g, 0, none⟩)) rfl (by kernel_rfl) (by kernel_rfl) (by kernel_rfl) (fun _ _ _ h => h) (Or.inl ⟨by rfl, fun w9 hSw => ?_⟩) hHeld ?_
  · (try dsimp only at hSw)
    go_simp
  try simp only [List.getElem_toArray, List.getElem_cons_succ, List.getElem_cons_zero, Act.put, List.setIfInBounds_toArray, List.set_cons_zero, List.set_cons_succ]
  refine wpAnyH_take (i := 1) (v := .agg #[.int .i64 op, .int .i64 a, .int .i64 b, .int .i64 (cn : Int), .int .u64 m]) rfl (by kernel_rfl) (by kernel_rfl) (by kernel_rfl) (fun _ _ _ h => h) (Or.inl ⟨by rfl, fun w9 hSw => ?_⟩) hHeld ?_
  · (try dsimp only at hSw)
    have q0 := cells_below hSw HF.out.1 (by simp [HZ.out])
    have q1 := cells_below hSw HF.out.2.1 (by simp [HZ.out])
    have q2 := cells_below hSw HF.out.2.2.1 (by simp [HZ.out])
    have q3 := cells_below hSw HF.out.2.2.2.1 (by simp [HZ.out])
    have q4 := cells_below hSw HF.out.2.2.2.2 (by simp [HZ.out])
    go_simp
  try simp only [List.getElem_toArray, List.getElem_cons_succ, List.getElem_cons_zero, Act.put, List.setIfInBounds_toArray, List.set_cons_zero, List.set_cons_succ]
  refine wpAnyH_take (i := 3) (v := .pointer (some ⟨g, 0, none⟩)) rfl (by kernel_rfl) (by kernel_rfl) (by kernel_rfl) (fun _ _ _ h => h) (Or.inl ⟨by rfl, fun w9 hSw => ?_⟩) hHeld ?_
  · (try dsimp only at hSw)
    go_simp
  try simp only [List.getElem_toArray, List.getElem_cons_succ, List.getElem_cons_zero, Act.put, List.setIfInBounds_toArray, List.set_cons_zero, List.set_cons_succ]
  refine wpAnyH_take (i := 4) (v := .pointer (some ⟨g, 0, none⟩)) rfl (by kernel_rfl) (by kernel_rfl) (by kernel_rfl) (fun _ _ _ h => h) (Or.inl ⟨by rfl, fun w9 hSw => ?_⟩) hHeld ?_
  · (try dsimp only at hSw)
    go_simp
  try simp only [List.getElem_toArray, List.getElem_cons_succ, List.getElem_cons_zero, Act.put, List.setIfInBounds_toArray, List.set_cons_zero, List.set_cons_succ]
  refine wpAnyH_take (i := 5) (v := .pointer (some ⟨g, 7, none⟩)) rfl (by kernel_rfl) (by kernel_rfl) (by kernel_rfl) (fun _ _ _ h => h) (Or.inl ⟨by rfl, fun w9 hSw => ?_⟩) hHeld ?_
  · (try dsimp only at hSw)
    go_simp
  try simp only [List.getElem_toArray, List.getElem_cons_succ, List.getElem_cons_zero, Act.put, List.setIfInBounds_toArray, List.set_cons_zero, List.set_cons_succ]
  refine wpAnyH_take (i := 6) (v := .pointer (some ⟨g, 16, none⟩)) rfl (by kernel_rfl) (by kernel_rfl) (by kernel_rfl) (fun _ _ _ h => h) (Or.inl ⟨by rfl, fun w9 hSw => ?_⟩) hHeld ?_
  · (try dsimp only at hSw)
    go_simp
  try simp only [List.getElem_toArray, List.getElem_cons_succ, List.getElem_cons_zero, Act.put, List.setIfInBounds_toArray, List.set_cons_zero, List.set_cons_succ]
  refine wpAnyH_take (i := 7) (v := .slice (some ⟨mb, 0, none⟩) n cap) rfl (by kernel_rfl) (by kernel_rfl) (by kernel_rfl) (fun _ _ _ h => h) (Or.inl ⟨by rfl, fun w9 hSw => ?_⟩) hHeld ?_
  · (try dsimp only at hSw)
    have q16 := cells_below hSw H16.out HG.out
    go_simp
  try simp only [List.getElem_toArray, List.getElem_cons_succ, List.getElem_cons_zero, Act.put, List.setIfInBounds_toArray, List.set_cons_zero, List.set_cons_succ]
  refine wpAnyH_take (i := 8) (v := .int .i64 n) rfl (by kernel_rfl) (by kernel_rfl) (by kernel_rfl) (fun _ _ _ h => h) (Or.inl ⟨by rfl, fun w9 hSw => ?_⟩) hHeld ?_
  · (try dsimp only at hSw)
    go_simp
  try simp only [List.getElem_toArray, List.getElem_cons_succ, List.getElem_cons_zero, Act.put, List.setIfInBounds_toArray, List.set_cons_zero, List.set_cons_succ]
  refine wpAnyH_take (i := 9) (v := .int .u64 n) rfl (by kernel_rfl) (by kernel_rfl) (by kernel_rfl) (fun _ _ _ h => h) (Or.inl ⟨by rfl, fun w9 hSw => ?_⟩) hHeld ?_
  · (try dsimp only at hSw)
    go_simp
  try simp only [List.getElem_toArray, List.getElem_cons_succ, List.getElem_cons_zero, Act.put, List.setIfInBounds_toArray, List.set_cons_zero, List.set_cons_succ]
  refine wpAnyH_ready (rs := [2]) (by kernel_rfl) (by simp) ?_
  refine (AllReadyH.cons rfl (fun K hK => ?_) AllReadyH.nil)
  go_simp
  go_at_call 94
  refine (address_any g b op a cn m x cs _ HR.out.drew HX.out hl).mono ?_
  rintro e v ⟨rfl, hbv⟩
  refine hK.out _ _ ((Below.refl _ _).drew.trans hbv) (fun hHeld => ?_)
  clear hK K
  try simp only [List.getElem_toArray, List.getElem_cons_succ, List.getElem_cons_zero, Act.put, List.setIfInBounds_toArray, List.set_cons_zero, List.set_cons_succ]
  refine wpAnyH_take (i := 10) (v := .int .u64 (IntKind.u64.wrap (x + m))) rfl (by kernel_rfl) (by kernel_rfl) (by kernel_rfl) (fun _ _ _ h => h) (Or.inl ⟨by rfl, fun w9 hSw => ?_⟩) hHeld ?_
  · (try dsimp only at hSw)
    go_simp
  try simp only [List.getElem_toArray, List.getElem_cons_succ, List.getElem_cons_zero, Act.put, List.setIfInBounds_toArray, List.set_cons_zero, List.set_cons_succ]
  refine wpAnyH_take (i := 11) (v := .int .u64 n) rfl (by kernel_rfl) (by kernel_rfl) (by kernel_rfl) (fun _ _ _ h => h) (Or.inl ⟨by rfl, fun w9 hSw => ?_⟩) hHeld ?_
  · (try dsimp only at hSw)
    go_simp
  try simp only [List.getElem_toArray, List.getElem_cons_succ, List.getElem_cons_zero, Act.put, List.setIfInBounds_toArray, List.set_cons_zero, List.set_cons_succ]
  refine wpAnyH_done (by kernel_rfl) ?_ _
  rw [E2.out]
  have hbv' : Below w1.heap.size w1 v := hHeld
  have q3 := cells_below hbv' HF.out.2.2.2.1 (by simp [HZ.out])
  have hBv : Below w.heap.size w v := HB.out.trans (hbv'.mono (by simp [HZ.out]))
  have HH := Lib.hid hBv
  clear hHeld hbv' hbv hBv
  have hgt : ¬ (n : Int) < k := by omega
  have e4 : IntKind.u64.wrap ((n : Int) - k) = n - k := by rw [IntKind.wrap_u64]; omega
  have hlt : ¬ (n : Int) - k < cn := by omega
  have hml : mb < w.heap.size := by
    rcases Nat.lt_or_ge mb w.heap.size with h1 | h1
    · exact h1
    · have := HMM.out; rw [Array.getElem?_eq_none h1] at this; cases this
  go_wp2
  go_loopw [9, 34] (fun _ i wr => ∃ q : Nat, q ≤ cn ∧ i = .int .i64 q ∧ wr.heap[mb]? = some (.cells (svA q cur k y) 5 (0, 0)) ∧ Fr mb none none w wr) (fun _ i _ => cn - (intOf i).toNat)
  case atStart => exact ⟨0, by omega, rfl, (HH.out.block mb hml).trans HMM.out, Fr.of_below HH.out⟩
  case round =>
    obtain ⟨q, hq, rfl, hXq, hfr⟩ := hrel
    have HXQ := Lib.hid hXq
    have HFR := Lib.hid hfr
    clear hXq hfr
    by_cases hqc : q < cn
    · have hql : (q : Int) < cn := by omega
      have e5 : IntKind.u64.wrap (q : Int) = q := by rw [IntKind.wrap_u64]; omega
      have e6 : IntKind.u64.wrap ((k : Int) + q) = ((k + q : Nat) : Int) := by rw [IntKind.wrap_u64]; omega
      have e7 : IntKind.i64.wrap (8 * (q : Int)) = 8 * q := by rw [IntKind.wrap_i64]; omega
      have old : ∀ (B i : Nat), B < w.heap.size → mb ≠ B → wr.cell? ⟨B, i, none⟩ = w.cell? ⟨B, i, none⟩ := fun B i h1 h2 => World.cell?_of_block (HFR.out.block B h1 (Ne.symm h2) (by simp) (by simp))
      have hXl : X < w.heap.size := World.block_lt_of_cell? _ _ HXX.out
      have hRl : R < w.heap.size := World.block_lt_of_cell? _ _ HRR.out
      have cX := (old X 0 hXl HXM.out).trans HXX.out
      have cR := (old R 0 hRl HXR.out).trans HRR.out
      have cM := (old g 16 HMB.out.lt HXG.out).trans ((HMB.out.c 16).trans HM.out)
      obtain ⟨z, hz⟩ := HZS.out (k + q) (by omega)
      have cZ : wr.cell? ⟨mb, k + q, none⟩ = some (.int .u8 z) := by rw [cell_of_row _ _ _ _ _ _ HXQ.out, svA_past _ _ _ _ _ (Nat.le_refl _)]; exact hz
      have hcl := save_clo g X R mb cap n (k + q) q y z wr cX cR cM (by omega) (by unfold maxLen; omega) cZ (Joins.unfrozen_of_block HXQ.out _) (by omega) HY.out.1 HY.out.2
      have HCL := Lib.hid hcl
      clear old cX cR cM cZ hcl hz
      go_wp2_with (go_at_call 93; refine HCL.out.mono ?_; rintro e v2 ⟨rfl, rfl⟩)
      go_roundw
      case rel =>
        refine ⟨q + 1, by omega, by go_num, ?_, ?_⟩
        · exact Joins.block_setCell HXQ.out _
        · exact HFR.out.trans (Fr.set _ _ _).drew
      case measure => simp [intOf]; omega
    · have hqe : q = cn := by omega
      have HQE := Lib.hid hqe
      have hql : ¬ (q : Int) < cn := by omega
      clear hqe
      go_wp2
      go_ret
      exact ⟨rfl, by rw [← HQE.out]; exact HXQ.out, HFR.out⟩

set_option maxRecDepth 20000 in
set_option maxHeartbeats 3200000 in
theorem load_out (g b : Nat) (op a c m x : Int) (cs : Array Value) (w : World) (A : Option Addr) (n cap : Nat) (hb : RnB w g cs) (hl : b < 8) (hx : cs[8 + b]? = some (.int .u64 x)) (hm : cs[16]? = some (.slice A n cap)) (hn : n ≤ maxLen) (c0 : 0 ≤ c) (c1 : c ≤ 8) (h : ¬ (x + m) % 18446744073709551616 + c ≤ n) :
    Calls Tryd.prog 73 #[.pointer (some ⟨g, 0, none⟩), .agg #[.int .i64 op, .int .i64 a, .int .i64 b, .int .i64 c, .int .u64 m]] w fun e w' => e = .returned (.int .i64 2) ∧ Below w.heap.size w w' := by
  have HB := Lib.hid hb
  have HH := Lib.hid h
  clear hb h
  go_enter Tryd.func73, Tryd.ntmps73
  go_wp2_with fail
  refine (through_out g b op a c m x _ cs _ A n cap (((HB.out.box _).box _).box _) hl hx hm hn c0 c1 (by have := HH.out; omega)).mono ?_
  rintro e v ⟨rfl, hbv⟩
  have hB : Below w.heap.size w v := ((((Below.refl _ _).alloc (Nat.le_refl _) _).alloc (by simp) _).alloc (by simp; omega) _).trans (hbv.mono (by simp; omega))
  have HB2 := Lib.hid hB
  clear hB hbv
  go_wp2
  go_ret
  exact ⟨rfl, HB2.out⟩

set_option maxRecDepth 20000 in
set_option maxHeartbeats 3200000 in
theorem load_in (g a b mb k cn : Nat) (op c m x : Int) (zs : List Int) (cs : Array Value) (w : World) (n cap : Nat) (hb : RnB w g cs) (hz : cs.size = 45) (ha : a < 8) (hl : b < 8) (hx : cs[8 + b]? = some (.int .u64 x)) (hm : cs[16]? = some (.slice (some ⟨mb, 0, none⟩) n cap)) (hn : n ≤ maxLen) (hc : c = cn) (c1 : cn ≤ 8)
    (hk : (x + m) % 18446744073709551616 = k) (h : k + cn ≤ n) (hzl : zs.length = cn) (hml : mb < w.heap.size) (hzz : ∀ q, q < cn → w.cell? ⟨mb, k + q, none⟩ = some (.int .u8 (zs.getD q 0))) (hzr : ∀ z ∈ zs, 0 ≤ z ∧ z ≤ 255) :
    Calls Tryd.prog 73 #[.pointer (some ⟨g, 0, none⟩), .agg #[.int .i64 op, .int .i64 a, .int .i64 b, .int .i64 c, .int .u64 m]] w fun e w' =>
      e = .returned (.int .i64 0) ∧ RnB w' g (cs.setIfInBounds (8 + a) (.int .u64 (Mc.le zs))) ∧ Fr g none none w w' := by
  subst hc
  have HB := Lib.hid hb
  have HZZ := Lib.hid hzz
  have HZR := Lib.hid hzr
  have hgl := hb.lt
  clear hb hzz hzr
  have hB3 : ∀ o1 o2 o3, Below w.heap.size w (((w.alloc o1).alloc o2).alloc o3) := fun o1 o2 o3 => (((Below.refl _ _).alloc (Nat.le_refl _) _).alloc (by simp) _).alloc (by simp; omega) _
  have H3 := Lib.hid hB3
  clear hB3
  go_enter Tryd.func73, Tryd.ntmps73
  go_wp2_with fail
  refine (through_load g b (w.heap.size + 1 + 1) w.heap.size mb k cn op a cn m x zs cs _ n cap (((HB.out.box _).box _).box _) hl hx hm hn rfl c1 hk h hzl (fun q hq => ((H3.out _ _ _).cell (p := ⟨mb, k + q, none⟩) hml).trans (HZZ.out q hq)) HZR.out ?_ ?_ (by omega) (by omega) (by omega)).mono ?_
  · exact (three _ _ _ _).2.2
  · exact row_cell (three _ _ _ _).1 0
  rintro e v ⟨rfl, hXv, hfv⟩
  have hRv : RnB v g cs := (hfv.block g (by simp; omega) (by omega) (by simp) (by simp)).trans (((HB.out.box _).box _).box _)
  have cX : v.cell? ⟨w.heap.size + 1 + 1, 0, none⟩ = some (.int .u64 (Mc.le zs)) := by rw [cell_of_row _ _ _ _ _ _ hXv]; rfl
  have hF : Fr g none none w v := ⟨hfv.os, hfv.tape, hfv.output, Nat.le_trans (by simp; omega) hfv.size, fun i hi _ _ _ => (hfv.block i (by simp; omega) (by omega) (by simp) (by simp)).trans ((H3.out _ _ _).block i hi)⟩
  have cr : v.cell? ⟨w.heap.size, 0, none⟩ = some (.pointer (some ⟨g, 0, none⟩)) := (World.cell?_of_block (hfv.block w.heap.size (by simp; omega) (by omega) (by simp) (by simp))).trans (row_cell (three _ _ _ _).1 0)
  have hbx : v.heap[w.heap.size + 1]? = some (.cells #[.int .i64 op, .int .i64 a, .int .i64 b, .int .i64 (cn : Int), .int .u64 m] 59 (0, 0)) := (hfv.block (w.heap.size + 1) (by simp) (by omega) (by simp) (by simp)).trans (three _ _ _ _).2.1
  have cb : ∀ i, v.cell? ⟨w.heap.size + 1, i, none⟩ = (#[.int .i64 op, .int .i64 a, .int .i64 b, .int .i64 (cn : Int), .int .u64 m] : Array Value)[i]? := fun i => cell_of_row _ _ _ _ _ _ hbx
  have b0 := cb 0
  have b1 := cb 1
  have b2 := cb 2
  have b3 := cb 3
  have b4 := cb 4
  simp at b0 b1 b2 b3 b4
  have HRV := Lib.hid hRv
  have HF := Lib.hid hF
  clear cb hRv hF hXv hfv hbx
  go_wp2_with fail
  refine (put_reg g a op b cn m _ cs _ HRV.out hz ha).mono ?_
  rintro e v2 ⟨rfl, h2, h3⟩
  go_wp2
  go_ret
  exact ⟨rfl, h2, HF.out.trans h3⟩
end Go.Proofs.YtfhnigfghfmolaaDoor
namespace Go.Proofs.YtfhnigfghfmolaaDoor
set_option maxRecDepth 100000
open Go.RowKit

set_option maxRecDepth 20000 in
set_option maxHeartbeats 3200000 in
theorem save_out (g a b : Nat) (op c m x y : Int) (cs : Array Value) (w : World) (A : Option Addr) (n cap : Nat) (hb : RnB w g cs) (ha : a < 8) (hl : b < 8) (hy : cs[8 + a]? = some (.int .u64 y)) (hx : cs[8 + b]? = some (.int .u64 x)) (hm : cs[16]? = some (.slice A n cap)) (hn : n ≤ maxLen) (c0 : 0 ≤ c) (c1 : c ≤ 8) (h : ¬ (x + m) % 18446744073709551616 + c ≤ n) :
    Calls Tryd.prog 74 #[.pointer (some ⟨g, 0, none⟩), .agg #[.int .i64 op, .int .i64 a, .int .i64 b, .int .i64 c, .int .u64 m]] w fun e w' => e = .returned (.int .i64 2) ∧ Below w.heap.size w w' := by
  have ha' : (a : Int) < 8 := by omega
  have hgl := hb.lt
  have HB := Lib.hid hb
  have HH := Lib.hid h
  have hcy : ∀ o1 o2, ((w.alloc o1).alloc o2).cell? ⟨g, 8 + a, none⟩ = some (.int .u64 y) := fun o1 o2 => (((hb.box o1).box o2).c (8 + a)).trans hy
  have hcy3 : ∀ o1 o2 o3, (((w.alloc o1).alloc o2).alloc o3).cell? ⟨g, 8 + a, none⟩ = some (.int .u64 y) := fun o1 o2 o3 => ((((hb.box o1).box o2).box o3).c (8 + a)).trans hy
  clear hb h
  go_enter Tryd.func74, Tryd.ntmps74
  go_wp2_with fail
  go_region
  clear hcy hcy3
  go_wp2_with fail
  refine (through_out g b op a c m x _ cs _ A n cap (((HB.out.box _).box _).box _).drew hl hx hm hn c0 c1 (by have := HH.out; omega)).mono ?_
  rintro e v ⟨rfl, hbv⟩
  have hB : Below w.heap.size w v := ((((Below.refl _ _).alloc (Nat.le_refl _) _).alloc (by simp) _).alloc (by simp; omega) _).drew.trans (hbv.mono (by simp; omega))
  have HB2 := Lib.hid hB
  clear hB hbv
  go_wp2
  go_ret
  exact ⟨rfl, HB2.out⟩

set_option maxRecDepth 20000 in
set_option maxHeartbeats 3200000 in
theorem save_in (g a b mb k cn : Nat) (op c m x y : Int) (cur : Array Value) (cs : Array Value) (w : World) (n cap : Nat) (hb : RnB w g cs) (hz : cs.size = 45) (ha : a < 8) (hl : b < 8) (hy : cs[8 + a]? = some (.int .u64 y)) (hx : cs[8 + b]? = some (.int .u64 x)) (hm : cs[16]? = some (.slice (some ⟨mb, 0, none⟩) n cap)) (hn : n ≤ maxLen) (hc : c = cn) (c1 : cn ≤ 8)
    (hk : (x + m) % 18446744073709551616 = k) (h : k + cn ≤ n) (hM : w.heap[mb]? = some (.cells cur 5 (0, 0))) (hzz : ∀ q, q < n → ∃ z, cur[q]? = some (.int .u8 z)) (y0 : 0 ≤ y) (y1 : y < 18446744073709551616) (hmg : mb ≠ g) :
    Calls Tryd.prog 74 #[.pointer (some ⟨g, 0, none⟩), .agg #[.int .i64 op, .int .i64 a, .int .i64 b, .int .i64 c, .int .u64 m]] w fun e w' =>
      e = .returned (.int .i64 0) ∧ w'.heap[mb]? = some (.cells (svA cn cur k y) 5 (0, 0)) ∧ Fr mb none none w w' := by
  subst hc
  have ha' : (a : Int) < 8 := by omega
  have hgl := hb.lt
  have hml : mb < w.heap.size := by
    rcases Nat.lt_or_ge mb w.heap.size with h1 | h1
    · exact h1
    · rw [Array.getElem?_eq_none h1] at hM; cases hM
  have HB := Lib.hid hb
  have HZZ := Lib.hid hzz
  have HMM := Lib.hid hM
  have hcy : ∀ o1 o2, ((w.alloc o1).alloc o2).cell? ⟨g, 8 + a, none⟩ = some (.int .u64 y) := fun o1 o2 => (((hb.box o1).box o2).c (8 + a)).trans hy
  have hcy3 : ∀ o1 o2 o3, (((w.alloc o1).alloc o2).alloc o3).cell? ⟨g, 8 + a, none⟩ = some (.int .u64 y) := fun o1 o2 o3 => ((((hb.box o1).box o2).box o3).c (8 + a)).trans hy
  have hB3 : ∀ o1 o2 o3, Below w.heap.size w (((w.alloc o1).alloc o2).alloc o3) := fun o1 o2 o3 => (((Below.refl _ _).alloc (Nat.le_refl _) _).alloc (by simp) _).alloc (by simp; omega) _
  have H3 := Lib.hid hB3
  clear hb hB3 hzz hM
  go_enter Tryd.func74, Tryd.ntmps74
  go_wp2_with fail
  go_region
  clear hcy hcy3
  go_wp2_with fail
  refine (through_save g b (w.heap.size + 1 + 1) w.heap.size mb k cn op a cn m x y cur cs _ n cap (((HB.out.box _).box _).box _).drew hl hx hm hn rfl c1 hk h (((H3.out _ _ _).drew.block mb hml).trans HMM.out) HZZ.out y0 y1 ?_ ?_ hmg (by omega) (by omega)).mono ?_
  · exact row_cell (three _ _ _ _).2.2 0
  · exact row_cell (three _ _ _ _).1 0
  rintro e v ⟨rfl, hMv, hfv⟩
  have hF : Fr mb none none w v := ⟨hfv.os, hfv.tape, hfv.output, Nat.le_trans (by simp; omega) hfv.size, fun i hi h1 h2 h3 => (hfv.block i (by simp; omega) h1 h2 h3).trans ((H3.out _ _ _).drew.block i hi)⟩
  have HMV := Lib.hid hMv
  have HF := Lib.hid hF
  clear hMv hF hfv
  go_wp2
  go_ret
  exact ⟨rfl, HMV.out, HF.out⟩
end Go.Proofs.YtfhnigfghfmolaaDoor
namespace Go.Proofs.YtfhnigfghfmolaaDoor
set_option maxRecDepth 100000
open Go.RowKit

/-- An image and an input, by their values. -/
structure Hd where
  mem : Int
  stk : Int
  inp : Int
  Ad : Option Addr
  ld : Nat
  cd : Nat
  Af : Option Addr
  lf : Nat
  cf : Nat
  Ac : Option Addr
  lc : Nat
  cc : Nat
  Ai : Option Addr
  li : Nat
  ci : Nat
  p : Im.Pic
  xs : List Int
structure HdAt (w : World) (H : Hd) : Prop where
  img : ImAt w H.Ad H.ld H.cd H.Af H.lf H.cf H.Ac H.lc H.cc H.p
  e0 : H.p.mem = H.mem
  e1 : H.p.stk = H.stk
  e2 : H.p.inp = H.inp
  inp : BySl w H.Ai H.li H.ci H.xs
theorem HdAt.below {w w' : World} {H : Hd} (h : HdAt w H) (hb : Below w.heap.size w w') : HdAt w' H := ⟨h.img.below hb, h.e0, h.e1, h.e2, h.inp.below hb⟩

def fnL : List Nat := [68, 69, 70, 71, 71, 71, 72, 72, 71, 71, 71, 71, 71, 71, 71, 71, 71, 73, 74, 75, 76, 77, 78, 79, 80, 81]
def fnOf (k : Nat) : Nat := fnL.getD k 0
def actV (k : Nat) : Value := .func (.func (fnOf k)) #[] #[]

/-- The runner's cells. -/
structure Rc (H : Hd) (M O : Value) (s : Mc.St) (nx : Int) (cs : Array Value) : Prop where
  sz : cs.size = 45
  c0 : cs[0]? = some (.int .i64 H.mem)
  c1 : cs[1]? = some (.int .i64 H.stk)
  c2 : cs[2]? = some (.int .i64 H.inp)
  c3 : cs[3]? = some (.slice H.Ad H.ld H.cd)
  c4 : cs[4]? = some (.slice H.Af H.lf H.cf)
  c5 : cs[5]? = some (.slice H.Ac H.lc H.cc)
  c6 : cs[6]? = some (.slice H.Ai H.li H.ci)
  c7 : cs[7]? = some (.int .i64 s.pl)
  rg : ∀ k, k < 8 → cs[8 + k]? = some (.int .u64 (s.rg.getD k 0))
  c16 : cs[16]? = some M
  c17 : cs[17]? = some O
  c18 : cs[18]? = some (.int .i64 nx)
  ac : ∀ k, k < 26 → cs[19 + k]? = some (actV k)
theorem Rc.reg {H : Hd} {M O : Value} {s : Mc.St} {nx : Int} {cs : Array Value} (h : Rc H M O s nx cs) (hr : s.rg.length = 8) {a : Nat} (ha : a < 8) (x : Int) : Rc H M O { s with rg := s.rg.set a x } nx (cs.setIfInBounds (8 + a) (.int .u64 x)) := by
  have ne : ∀ i, i ≠ 8 + a → (cs.setIfInBounds (8 + a) (.int .u64 x))[i]? = cs[i]? := fun i hi => Array.getElem?_setIfInBounds_ne (Ne.symm hi)
  refine ⟨by rw [Array.size_setIfInBounds]; exact h.sz, (ne _ (by omega)).trans h.c0, (ne _ (by omega)).trans h.c1, (ne _ (by omega)).trans h.c2, (ne _ (by omega)).trans h.c3, (ne _ (by omega)).trans h.c4, (ne _ (by omega)).trans h.c5, (ne _ (by omega)).trans h.c6, (ne _ (by omega)).trans h.c7, fun k hk => ?_, (ne _ (by omega)).trans h.c16, (ne _ (by omega)).trans h.c17, (ne _ (by omega)).trans h.c18, fun k hk => (ne _ (by omega)).trans (h.ac k hk)⟩
  show _ = some (Value.int .u64 ((s.rg.set a x).getD k 0))
  by_cases hka : k = a
  · subst hka
    rw [Array.getElem?_setIfInBounds_self_of_lt (by rw [h.sz]; omega), List.getD_eq_getElem?_getD, List.getElem?_set_self (by omega)]
    rfl
  · rw [ne _ (by omega), h.rg k hk, List.getD_eq_getElem?_getD, List.getD_eq_getElem?_getD, List.getElem?_set_ne (Ne.symm hka)]
theorem Rc.nx {H : Hd} {M O : Value} {s : Mc.St} {nx : Int} {cs : Array Value} (h : Rc H M O s nx cs) (x : Int) : Rc H M O s x (cs.setIfInBounds 18 (.int .i64 x)) := by
  have ne : ∀ i, i ≠ 18 → (cs.setIfInBounds 18 (.int .i64 x))[i]? = cs[i]? := fun i hi => Array.getElem?_setIfInBounds_ne (Ne.symm hi)
  exact ⟨by rw [Array.size_setIfInBounds]; exact h.sz, (ne _ (by omega)).trans h.c0, (ne _ (by omega)).trans h.c1, (ne _ (by omega)).trans h.c2, (ne _ (by omega)).trans h.c3, (ne _ (by omega)).trans h.c4, (ne _ (by omega)).trans h.c5, (ne _ (by omega)).trans h.c6, (ne _ (by omega)).trans h.c7, fun k hk => (ne _ (by omega)).trans (h.rg k hk), (ne _ (by omega)).trans h.c16, (ne _ (by omega)).trans h.c17, by rw [Array.getElem?_setIfInBounds_self_of_lt (by rw [h.sz]; omega)], fun k hk => (ne _ (by omega)).trans (h.ac k hk)⟩
theorem Rc.pl {H : Hd} {M O : Value} {s : Mc.St} {nx : Int} {cs : Array Value} (h : Rc H M O s nx cs) (x : Int) : Rc H M O { s with pl := x } nx (cs.setIfInBounds 7 (.int .i64 x)) := by
  have ne : ∀ i, i ≠ 7 → (cs.setIfInBounds 7 (.int .i64 x))[i]? = cs[i]? := fun i hi => Array.getElem?_setIfInBounds_ne (Ne.symm hi)
  exact ⟨by rw [Array.size_setIfInBounds]; exact h.sz, (ne _ (by omega)).trans h.c0, (ne _ (by omega)).trans h.c1, (ne _ (by omega)).trans h.c2, (ne _ (by omega)).trans h.c3, (ne _ (by omega)).trans h.c4, (ne _ (by omega)).trans h.c5, (ne _ (by omega)).trans h.c6, by rw [Array.getElem?_setIfInBounds_self_of_lt (by rw [h.sz]; omega)], fun k hk => (ne _ (by omega)).trans (h.rg k hk), (ne _ (by omega)).trans h.c16, (ne _ (by omega)).trans h.c17, (ne _ (by omega)).trans h.c18, fun k hk => (ne _ (by omega)).trans (h.ac k hk)⟩
theorem Rc.op {H : Hd} {M O : Value} {s : Mc.St} {nx : Int} {cs : Array Value} (h : Rc H M O s nx cs) (O' : Value) (l : List Int) : Rc H M O' { s with op := l } nx (cs.setIfInBounds 17 O') := by
  have ne : ∀ i, i ≠ 17 → (cs.setIfInBounds 17 O')[i]? = cs[i]? := fun i hi => Array.getElem?_setIfInBounds_ne (Ne.symm hi)
  exact ⟨by rw [Array.size_setIfInBounds]; exact h.sz, (ne _ (by omega)).trans h.c0, (ne _ (by omega)).trans h.c1, (ne _ (by omega)).trans h.c2, (ne _ (by omega)).trans h.c3, (ne _ (by omega)).trans h.c4, (ne _ (by omega)).trans h.c5, (ne _ (by omega)).trans h.c6, (ne _ (by omega)).trans h.c7, fun k hk => (ne _ (by omega)).trans (h.rg k hk), (ne _ (by omega)).trans h.c16, by rw [Array.getElem?_setIfInBounds_self_of_lt (by rw [h.sz]; omega)], (ne _ (by omega)).trans h.c18, fun k hk => (ne _ (by omega)).trans (h.ac k hk)⟩
theorem Rc.mm {H : Hd} {M O : Value} {s : Mc.St} {nx : Int} {cs : Array Value} (h : Rc H M O s nx cs) (l : List Int) : Rc H M O { s with mm := l } nx cs :=
  ⟨h.sz, h.c0, h.c1, h.c2, h.c3, h.c4, h.c5, h.c6, h.c7, h.rg, h.c16, h.c17, h.c18, h.ac⟩

/-- The runner in memory, made behind the world w0. -/
structure Rn (H : Hd) (w0 : World) (g : Nat) (M O : Value) (s : Mc.St) (nx : Int) (w : World) : Prop where
  bel : Below w0.heap.size w0 w
  row : ∃ cs, RnB w g cs ∧ Rc H M O s nx cs
  mo : w.ownsRow w0.heap.size 5 1 M s.mm.length (s.mm.map (Value.int .u8))
  oo : w.ownsRow w0.heap.size 3 1 O s.op.length (s.op.map (Value.int .i64))
  gb : w0.heap.size ≤ g
  mg : M.ownBlock ≠ some g
  og : O.ownBlock ≠ some g
  ne : ∀ k, M.ownBlock = some k → O.ownBlock ≠ some k
theorem ownsRow.blk {w w' : World} {base : Nat} {e : TypeId} {size : Nat} {v : Value} {n : Nat} {xs : List Value} (h : w.ownsRow base e size v n xs) (hb : ∀ k, v.ownBlock = some k → w'.heap[k]? = w.heap[k]?) : w'.ownsRow base e size v n xs := by
  refine ⟨h.1, h.2.imp_right ?_⟩
  rintro ⟨g, cap, cur, rfl, h1, h2, h3⟩
  exact ⟨g, cap, cur, rfl, h1, (hb g rfl).trans h2, h3⟩
theorem Rn.below {H : Hd} {w0 : World} {g : Nat} {M O : Value} {s : Mc.St} {nx : Int} {w w' : World} (h : Rn H w0 g M O s nx w) (hb : Below w.heap.size w w') : Rn H w0 g M O s nx w' := by
  obtain ⟨cs, h1, h2⟩ := h.row
  exact ⟨h.bel.trans (hb.mono h.bel.size), ⟨cs, h1.below hb, h2⟩, own_below h.mo hb, own_below h.oo hb, h.gb, h.mg, h.og, h.ne⟩
theorem Below.of_fr {w0 w w' : World} {g : Nat} {m o : Option Nat} (h : Below w0.heap.size w0 w) (hf : Fr g m o w w') (hg : w0.heap.size ≤ g) (hm : ∀ k, m = some k → w0.heap.size ≤ k) (ho : ∀ k, o = some k → w0.heap.size ≤ k) : Below w0.heap.size w0 w' :=
  h.trans ⟨hf.os, hf.tape, hf.output, hf.size, fun k hk => hf.block k (Nat.lt_of_lt_of_le hk h.size) (by omega) (fun e => by have := hm k e.symm; omega) (fun e => by have := ho k e.symm; omega)⟩
/-- Only the runner's block has changed. -/
theorem Rn.cells {H : Hd} {w0 : World} {g : Nat} {M O : Value} {s s' : Mc.St} {nx nx' : Int} {w w' : World} {cs' : Array Value} (h : Rn H w0 g M O s nx w) (hr : RnB w' g cs') (hc : Rc H M O s' nx' cs') (hf : Fr g none none w w') (hm : s'.mm = s.mm) (ho : s'.op = s.op) : Rn H w0 g M O s' nx' w' := by
  have key : ∀ {v : Value} {e : TypeId} {n : Nat} {xs : List Value}, w.ownsRow w0.heap.size e 1 v n xs → v.ownBlock ≠ some g → w'.ownsRow w0.heap.size e 1 v n xs := fun hv hg => ownsRow.blk hv fun k hk => hf.block k (hv.lt k hk).2 (fun e => hg (by rw [hk, e])) (by simp) (by simp)
  exact ⟨Below.of_fr h.bel hf h.gb (by simp) (by simp), ⟨cs', hr, hc⟩, by rw [hm]; exact key h.mo h.mg, by rw [ho]; exact key h.oo h.og, h.gb, h.mg, h.og, h.ne⟩

/-- What an action leaves. -/
def AP (H : Hd) (w0 : World) (g : Nat) (M O : Value) (r : Mc.St × Int × Int) (w : World) (e : Ending) (w' : World) : Prop :=
  ∃ O', e = .returned (.int .i64 r.2.2) ∧ Rn H w0 g M O' r.1 r.2.1 w' ∧ Fr g M.ownBlock O.ownBlock w w' ∧ (O'.ownBlock = O.ownBlock ∨ ∃ k, O'.ownBlock = some k ∧ w.heap.size ≤ k)
theorem AP.still {H : Hd} {w0 : World} {g : Nat} {M O : Value} {s : Mc.St} {nx x : Int} {w w' : World} {e : Ending} (h : Rn H w0 g M O s nx w) (he : e = .returned (.int .i64 x)) (hb : Below w.heap.size w w') : AP H w0 g M O (s, nx, x) w e w' :=
  ⟨O, he, h.below hb, Fr.of_below hb, .inl rfl⟩
theorem AP.cells {H : Hd} {w0 : World} {g : Nat} {M O : Value} {s s' : Mc.St} {nx nx' x : Int} {w w' : World} {e : Ending} {cs' : Array Value} (h : Rn H w0 g M O s nx w) (he : e = .returned (.int .i64 x)) (hr : RnB w' g cs') (hc : Rc H M O s' nx' cs') (hf : Fr g none none w w') (hm : s'.mm = s.mm) (ho : s'.op = s.op) : AP H w0 g M O (s', nx', x) w e w' :=
  ⟨O, he, h.cells hr hc hf hm ho, hf.wide, .inl rfl⟩
end Go.Proofs.YtfhnigfghfmolaaDoor
namespace Go.Proofs.YtfhnigfghfmolaaDoor
set_option maxRecDepth 100000
open Go.RowKit

theorem bad_c {op a b c m : Int} (h : Cd.bad op a b c m = -1) (hk : Cd.kc op.toNat = 1) : c ≤ 7 := by
  unfold Cd.bad at h
  rw [hk] at h
  split at h
  · split at h
    · split at h
      · split at h
        · rename_i h3
          simp only [Cd.mp] at h3
          rw [if_pos trivial] at h3
          split at h3
          · omega
          · split at h3 <;> omega
        · cases h
      · cases h
    · cases h
  · cases h
theorem bad_w {op a b c m : Int} (h : Cd.bad op a b c m = -1) (hk : Cd.kc op.toNat = 2) : c ≠ 0 := by
  rintro rfl
  unfold Cd.bad at h
  rw [hk] at h
  have : ¬ Cd.mp 2 0 = 0 := by decide
  rw [if_neg this] at h
  split at h
  · split at h
    · split at h <;> cases h
    · cases h
  · cases h
theorem rv_nat (s : Mc.St) (k : Nat) : Mc.rv s (k : Int) = s.rg.getD k 0 := by simp [Mc.rv]
theorem getD_map' {f : Int → Value} {l : List Int} {k : Nat} (h : k < l.length) : (l.map f)[k]? = some (f (l.getD k 0)) := by
  rw [List.getElem?_map, List.getElem?_eq_getElem h, List.getD_eq_getElem?_getD, List.getElem?_eq_getElem h]; rfl
/-- A row of the call's own, opened. -/
theorem own_open {w : World} {base n : Nat} {e : TypeId} {v : Value} {xs : List Value} (h : w.ownsRow base e 1 v n xs) :
    ∃ A cap, v = .slice A n cap ∧ n ≤ cap ∧ cap ≤ maxLen ∧ (0 < n → ∃ o cur, A = some ⟨o, 0, none⟩ ∧ base ≤ o ∧ w.heap[o]? = some (.cells cur e (0, 0)) ∧ cur.size = cap ∧ cur.toList.take n = xs) := by
  rcases h.2 with ⟨rfl, rfl⟩ | ⟨o, cap, cur, rfl, h1, h2, h3, h4, h5, h6⟩
  · exact ⟨none, 0, rfl, Nat.le_refl _, Nat.zero_le _, fun h0 => absurd h0 (by omega)⟩
  · exact ⟨_, cap, rfl, h3, h4, fun _ => ⟨o, cur, rfl, h1, h2, by simpa using h5, by simpa using h6⟩⟩
theorem take_get {cur : Array Value} {n : Nat} {xs : List Value} (h : cur.toList.take n = xs) {k : Nat} (hk : k < n) : cur[k]? = xs[k]? := by
  rw [← h, List.getElem?_take_of_lt hk, Array.getElem?_toList]

theorem svA_get : ∀ (q : Nat) (cur : Array Value) (k : Nat) (x : Int) (i : Nat), k + q ≤ cur.size → (svA q cur k x)[i]? = if k ≤ i ∧ i < k + q then some (.int .u8 (x / 256 ^ (i - k) % 256)) else cur[i]?
  | 0, cur, k, x, i, _ => by rw [if_neg (by omega)]; rfl
  | q + 1, cur, k, x, i, h => by
    unfold svA
    by_cases hi : k + q = i
    · subst hi
      rw [Array.getElem?_setIfInBounds_self_of_lt (by rw [svA_size]; omega), if_pos (by omega), Nat.add_sub_cancel_left]
    · rw [Array.getElem?_setIfInBounds_ne hi, svA_get q cur k x i (by omega)]
      by_cases h2 : k ≤ i ∧ i < k + q
      · rw [if_pos h2, if_pos (by omega)]
      · rw [if_neg h2, if_neg (by omega)]
theorem bys_get : ∀ (n : Nat) (x : Int) (j : Nat), j < n → (Mc.bys n x)[j]? = some (x / 256 ^ j % 256)
  | 0, _, _, h => absurd h (by omega)
  | n + 1, x, 0, _ => by simp [Mc.bys]
  | n + 1, x, j + 1, h => by
    simp only [Mc.bys, List.getElem?_cons_succ]
    rw [bys_get n (x / 256) j (by omega), Int.pow_succ, Int.mul_comm, Int.ediv_ediv_of_nonneg (by decide)]
theorem sav_get {mm : List Int} {k c : Nat} {x : Int} (h : k + c ≤ mm.length) (i : Nat) : (Mc.sav mm k c x)[i]? = if k ≤ i ∧ i < k + c then some (x / 256 ^ (i - k) % 256) else mm[i]? := by
  unfold Mc.sav
  have h1 : (mm.take k).length = k := by simp; omega
  have h2 : (mm.take k ++ Mc.bys c x).length = k + c := by simp [Mc.bys_len]; omega
  rcases Nat.lt_or_ge i (k + c) with hi | hi
  · rw [List.getElem?_append_left (by omega)]
    rcases Nat.lt_or_ge i k with hk | hk
    · rw [List.getElem?_append_left (by omega), List.getElem?_take_of_lt hk, if_neg (by omega)]
    · rw [List.getElem?_append_right (by omega), h1, bys_get _ _ _ (by omega), if_pos ⟨hk, hi⟩]
  · rw [List.getElem?_append_right (by omega), h2, List.getElem?_drop, if_neg (by omega)]
    congr 1
    omega
theorem sav_take {cur : Array Value} {mm : List Int} {k c : Nat} {x : Int} (h : cur.toList.take mm.length = mm.map (Value.int .u8)) (hkc : k + c ≤ mm.length) : (svA c cur k x).toList.take mm.length = (Mc.sav mm k c x).map (Value.int .u8) := by
  have hsz : mm.length ≤ cur.size := by
    have := congrArg List.length h
    simp at this
    omega
  refine List.ext_getElem? fun i => ?_
  rcases Nat.lt_or_ge i mm.length with hi | hi
  · rw [List.getElem?_take_of_lt hi, Array.getElem?_toList, svA_get _ _ _ _ _ (by omega), List.getElem?_map, sav_get hkc]
    split
    · rfl
    · rw [take_get h hi, List.getElem?_map]
  · rw [List.getElem?_eq_none (by simp; omega), List.getElem?_eq_none (by simp [Mc.sav_len hkc]; omega)]

section
variable {H : Hd} {w0 : World} {g : Nat} {M O : Value} {s : Mc.St} {nx : Int} {w : World}

theorem act_apply (h : Rn H w0 g M O s nx w) (hl : s.rg.length = 8) (n a b c : Nat) (m : Int) (hn : n < 26) (ha : a < 8) (hb : b < 8) (hc : c < 8) :
    Calls Tryd.prog 71 #[.pointer (some ⟨g, 0, none⟩), .agg #[.int .i64 n, .int .i64 a, .int .i64 b, .int .i64 c, .int .u64 m]] w (AP H w0 g M O (Mc.wr s ⟨n, a, b, c, m⟩ (Wd.app ((n : Int) + 5) 64 (Mc.rv s b) (Mc.rv s c)), nx, 0) w) := by
  obtain ⟨cs, h1, h2⟩ := h.row
  refine (apply_any g a b c n m _ _ cs w h1 h2.sz ha hb hc (h2.rg b hb) (h2.rg c hc) (by omega) (by omega)).mono ?_
  rintro e w' ⟨he, hr, hf⟩
  rw [rv_nat, rv_nat]
  exact AP.cells h he hr (h2.reg hl ha _) hf rfl rfl
theorem act_divide (h : Rn H w0 g M O s nx w) (hl : s.rg.length = 8) (n a b c : Nat) (m : Int) (hn : n < 26) (ha : a < 8) (hb : b < 8) (hc : c < 8) :
    Calls Tryd.prog 72 #[.pointer (some ⟨g, 0, none⟩), .agg #[.int .i64 n, .int .i64 a, .int .i64 b, .int .i64 c, .int .u64 m]] w
      (AP H w0 g M O (if Mc.rv s c = 0 then (s, nx, 3) else (Mc.wr s ⟨n, a, b, c, m⟩ (Wd.app ((n : Int) + 5) 64 (Mc.rv s b) (Mc.rv s c)), nx, 0)) w) := by
  obtain ⟨cs, h1, h2⟩ := h.row
  rw [rv_nat, rv_nat]
  split
  · rename_i h0
    have hy := h2.rg c hc
    rw [h0] at hy
    refine (divide_zero g c n a b m cs w h1 hc hy).mono ?_
    rintro e w' ⟨he, hb⟩
    exact AP.still h he hb
  · rename_i h0
    refine (divide_any g a b c n m _ _ cs w h1 h2.sz ha hb hc (h2.rg b hb) (h2.rg c hc) (by omega) (by omega) h0).mono ?_
    rintro e w' ⟨he, hr, hf⟩
    exact AP.cells h he hr (h2.reg hl ha _) hf rfl rfl
theorem act_set (h : Rn H w0 g M O s nx w) (hl : s.rg.length = 8) (a : Nat) (op b c m : Int) (ha : a < 8) :
    Calls Tryd.prog 69 #[.pointer (some ⟨g, 0, none⟩), .agg #[.int .i64 op, .int .i64 a, .int .i64 b, .int .i64 c, .int .u64 m]] w (AP H w0 g M O (Mc.wr s ⟨op, a, b, c, m⟩ m, nx, 0) w) := by
  obtain ⟨cs, h1, h2⟩ := h.row
  refine (set_any g a op b c m cs w h1 h2.sz ha).mono ?_
  rintro e w' ⟨he, hr, hf⟩
  exact AP.cells h he hr (h2.reg hl ha _) hf rfl rfl
theorem act_copy (h : Rn H w0 g M O s nx w) (hl : s.rg.length = 8) (a b : Nat) (op c m : Int) (ha : a < 8) (hb : b < 8) :
    Calls Tryd.prog 70 #[.pointer (some ⟨g, 0, none⟩), .agg #[.int .i64 op, .int .i64 a, .int .i64 b, .int .i64 c, .int .u64 m]] w (AP H w0 g M O (Mc.wr s ⟨op, a, b, c, m⟩ (Mc.rv s b), nx, 0) w) := by
  obtain ⟨cs, h1, h2⟩ := h.row
  rw [rv_nat]
  refine (copy_any g a b op c m _ cs w h1 h2.sz ha hb (h2.rg b hb)).mono ?_
  rintro e w' ⟨he, hr, hf⟩
  exact AP.cells h he hr (h2.reg hl ha _) hf rfl rfl
theorem act_length (HA : HdAt w0 H) (h : Rn H w0 g M O s nx w) (hl : s.rg.length = 8) (a : Nat) (op b c m : Int) (ha : a < 8) :
    Calls Tryd.prog 76 #[.pointer (some ⟨g, 0, none⟩), .agg #[.int .i64 op, .int .i64 a, .int .i64 b, .int .i64 c, .int .u64 m]] w (AP H w0 g M O (Mc.wr s ⟨op, a, b, c, m⟩ H.xs.length, nx, 0) w) := by
  obtain ⟨cs, h1, h2⟩ := h.row
  refine (length_any g a op b c m H.Ai H.li H.ci cs w h1 h2.sz ha h2.c6 (Nat.le_trans HA.inp.hle HA.inp.hcap)).mono ?_
  rintro e w' ⟨he, hr, hf⟩
  rw [HA.inp.hlen]
  exact AP.cells h he hr (h2.reg hl ha _) hf rfl rfl
theorem act_jump (h : Rn H w0 g M O s nx w) (op a b c m : Int) (h0 : 0 ≤ m) (hm : m < 9223372036854775808) :
    Calls Tryd.prog 77 #[.pointer (some ⟨g, 0, none⟩), .agg #[.int .i64 op, .int .i64 a, .int .i64 b, .int .i64 c, .int .u64 m]] w (AP H w0 g M O (s, m, 0) w) := by
  obtain ⟨cs, h1, h2⟩ := h.row
  refine (jump_any g op a b c m cs w h1 h2.sz h0 hm).mono ?_
  rintro e w' ⟨he, hr, hf⟩
  exact AP.cells h he hr (h2.nx _) hf rfl rfl
theorem act_branch (h : Rn H w0 g M O s nx w) (a : Nat) (op b c m : Int) (ha : a < 8) (h0 : 0 ≤ m) (hm : m < 9223372036854775808) :
    Calls Tryd.prog 78 #[.pointer (some ⟨g, 0, none⟩), .agg #[.int .i64 op, .int .i64 a, .int .i64 b, .int .i64 c, .int .u64 m]] w (AP H w0 g M O (if Mc.rv s a = 0 then (s, nx, 0) else (s, m, 0)) w) := by
  obtain ⟨cs, h1, h2⟩ := h.row
  rw [rv_nat]
  split
  · rename_i hz
    refine (branch_on g a op b c m _ cs w h1 ha (h2.rg a ha) hz).mono ?_
    rintro e w' ⟨he, hb⟩
    exact AP.still h he hb
  · rename_i hz
    refine (branch_to g a op b c m _ cs w h1 h2.sz ha (h2.rg a ha) hz h0 hm).mono ?_
    rintro e w' ⟨he, hr, hf⟩
    exact AP.cells h he hr (h2.nx _) hf rfl rfl
theorem act_read (HA : HdAt w0 H) (h : Rn H w0 g M O s nx w) (hl : s.rg.length = 8) (a b : Nat) (op c m : Int) (ha : a < 8) (hb : b < 8) :
    Calls Tryd.prog 75 #[.pointer (some ⟨g, 0, none⟩), .agg #[.int .i64 op, .int .i64 a, .int .i64 b, .int .i64 c, .int .u64 m]] w
      (AP H w0 g M O (if Mc.ad s ⟨op, a, b, c, m⟩ < H.xs.length then (Mc.wr s ⟨op, a, b, c, m⟩ (H.xs.getD (Mc.ad s ⟨op, a, b, c, m⟩).toNat 0), nx, 0) else (s, nx, 5)) w) := by
  obtain ⟨cs, h1, h2⟩ := h.row
  have hi := HA.inp.below h.bel
  have hlm := Nat.le_trans hi.hle hi.hcap
  have hx := h2.rg b hb
  have ead : Mc.ad s ⟨op, a, b, c, m⟩ = (s.rg.getD b 0 + m) % 18446744073709551616 := by simp only [Mc.ad, rv_nat]
  rw [ead, hi.hlen]
  split
  · rename_i hlt
    obtain ⟨k, hk⟩ := Int.eq_ofNat_of_zero_le (show 0 ≤ (s.rg.getD b 0 + m) % 18446744073709551616 by omega)
    rw [hk] at hlt ⊢
    have hkl : k < H.li := by omega
    obtain ⟨ib, io, hA, hib, hc⟩ := hi.mem (by omega)
    have h6 := h2.c6
    rw [hA] at h6
    have hbb := hi.isB k
    have hcz : w.cell? ⟨ib, io + k, none⟩ = some (.int .u8 (H.xs.getD k 0)) := by have := hc k (by rw [hi.hlen]; exact hkl); rwa [add_at] at this
    refine (read_in g a b op c m _ _ cs w ib io H.li H.ci h1 h2.sz ha hb hx h6 hlm k hk hkl hib hcz hbb.1 hbb.2).mono ?_
    rintro e w' ⟨he, hr, hf⟩
    exact AP.cells h he hr (h2.reg hl ha _) hf rfl rfl
  · rename_i hlt
    refine (read_out g b op a c m _ cs w H.Ai H.li H.ci h1 hb hx h2.c6 hlm hlt).mono ?_
    rintro e w' ⟨he, hb⟩
    exact AP.still h he hb
theorem act_back (h : Rn H w0 g M O s nx w) (op a b c m : Int) :
    Calls Tryd.prog 80 #[.pointer (some ⟨g, 0, none⟩), .agg #[.int .i64 op, .int .i64 a, .int .i64 b, .int .i64 c, .int .u64 m]] w (AP H w0 g M O (if s.op = [] then (s, nx, 1) else ({ s with op := s.op.dropLast }, s.op.getLastD 0, 0)) w) := by
  obtain ⟨cs, h1, h2⟩ := h.row
  obtain ⟨A, cap, hO, hcp, hmx, hx⟩ := own_open h.oo
  have h17 := h2.c17
  split
  · rename_i hz
    rw [hO, hz] at h17
    refine (back_empty g op a b c m A cap cs w h1 h17).mono ?_
    rintro e w' ⟨he, hb⟩
    exact AP.still h he hb
  · rename_i hz
    obtain ⟨l, z, hlz⟩ : ∃ l z, s.op = l ++ [z] := ⟨_, _, (List.dropLast_concat_getLast hz).symm⟩
    have hn : s.op.length = l.length + 1 := by rw [hlz]; simp
    obtain ⟨o, cur, rfl, hob, hblk, hcs, htk⟩ := hx (by omega)
    have hoo := h.oo
    rw [hO] at h17
    rw [hn] at h17 hcp htk
    rw [hn, hO, hlz] at hoo
    have hol : o < w.heap.size := (Array.getElem?_eq_some_iff.1 hblk).1
    have hog : o ≠ g := fun e => h.og (by rw [hO, e]; rfl)
    have hcz : w.cell? ⟨o, l.length, none⟩ = some (.int .i64 z) := by
      rw [row_cell hblk, take_get htk (by omega), hlz]
      simp
    refine (back_to g o l.length cap op a b c m z cs w h1 h2.sz h17 hcp hmx hol hcz hog).mono ?_
    rintro e w' ⟨he, hr, hf⟩
    have ed : s.op.dropLast = l := by rw [hlz]; simp
    have el : s.op.getLastD 0 = z := by rw [hlz]; simp
    rw [ed, el]
    have hpop : w.ownsRow w0.heap.size 3 1 (.slice (some ⟨o, 0, none⟩) l.length cap) l.length (l.map (Value.int .i64)) := ownsRow_pop (last := [.int .i64 z]) (by simp) (by simpa using hoo)
    have hpop' := ownsRow.blk hpop (w' := w') fun k hk => hf.block k (hpop.lt k hk).2 (fun e => hog (by simpa [Value.ownBlock, e] using hk)) (by simp) (by simp)
    have hmo := ownsRow.blk h.mo (w' := w') fun k hk => hf.block k (h.mo.lt k hk).2 (fun e => h.mg (by rw [hk, e])) (by simp) (by simp)
    refine ⟨.slice (some ⟨o, 0, none⟩) l.length cap, he, ⟨Below.of_fr h.bel hf h.gb (by simp) (by simp), ⟨_, hr, ?_⟩, hmo, hpop', h.gb, h.mg, ?_, ?_⟩, hf.wide, .inl (by rw [hO]; rfl)⟩
    · exact (h2.nx z).op _ l
    · intro e; exact hog (by simpa [Value.ownBlock] using e)
    · intro k hk e; exact h.ne k hk (by rw [hO]; exact e)
theorem act_call (HA : HdAt w0 H) (h : Rn H w0 g M O s nx w) (ho : s.op.length ≤ 1000) (op a b c : Int) (k : Nat) (hk : k < H.lf) :
    Calls Tryd.prog 79 #[.pointer (some ⟨g, 0, none⟩), .agg #[.int .i64 op, .int .i64 a, .int .i64 b, .int .i64 c, .int .u64 k]] w
      (AP H w0 g M O (if (s.op.length : Int) < H.p.stk then ({ s with op := s.op ++ [nx] }, H.p.fs.getD k 0, 0) else (s, nx, 4)) w) := by
  obtain ⟨cs, h1, h2⟩ := h.row
  obtain ⟨A, cap, hO, hcp, hmx, hx⟩ := own_open h.oo
  rw [HA.e1]
  have hfs := HA.img.f
  split
  · rename_i hlt
    obtain ⟨bf, of, hAf, hbf, hcf⟩ := hfs.mem (by omega)
    have h4 := h2.c4
    rw [hAf] at h4
    have hcell : w.cell? ⟨bf, of + k, none⟩ = some (.int .i64 (H.p.fs.getD k 0)) := (h.bel.cell (p := ⟨bf, of + k, none⟩) hbf).trans (hcf k hk)
    refine (call_ok g op a b c k H.stk nx _ O A s.op.length cap w0.heap.size s.op cs w h1 h2.sz hO h2.c17 h2.c1 h2.c18 bf of H.lf H.cf k h4 (Nat.le_trans hfs.hle hfs.hcap) hbf h.bel.size rfl hk hcell h.oo ho hlt h.og h.gb).mono ?_
    rintro e w' ⟨A', cap', he, hr, hown, hf, hor⟩
    refine ⟨.slice A' (s.op.length + 1) cap', he, ⟨Below.of_fr h.bel hf h.gb (by simp) (fun k hk => (h.oo.lt k hk).1), ⟨_, hr, (h2.op _ _).nx _⟩, ?_, by simpa using hown, h.gb, h.mg, ?_, ?_⟩, ?_, hor⟩
    · exact ownsRow.blk h.mo fun k hk => hf.block k (h.mo.lt k hk).2 (fun e => h.mg (by rw [hk, e])) (by simp) (fun e => h.ne k hk e.symm)
    · intro e
      rcases hor with h3 | ⟨k, h3, h4⟩
      · exact h.og (h3.symm.trans e)
      · rw [h3] at e; injection e with e; have := h1.lt; omega
    · intro j hj e
      rcases hor with h3 | ⟨k, h3, h4⟩
      · exact h.ne j hj (h3.symm.trans e)
      · rw [h3] at e; injection e with e; have := (h.mo.lt j hj).2; omega
    · exact ⟨hf.os, hf.tape, hf.output, hf.size, fun k hk h1 _ h3 => hf.block k hk h1 (by simp) h3⟩
  · rename_i hlt
    have h17 := h2.c17
    rw [hO] at h17
    refine (call_full g op a b c k H.stk A s.op.length cap cs w h1 h17 h2.c1 (Nat.le_trans hcp hmx) (by omega)).mono ?_
    rintro e w' ⟨he, hb⟩
    exact AP.still h he hb
theorem act_load (h : Rn H w0 g M O s nx w) (hl : s.rg.length = 8) (hB : Cd.isB s.mm) (a b c : Nat) (op m : Int) (ha : a < 8) (hb : b < 8) (hc0 : 0 < c) (hc : c ≤ 8) :
    Calls Tryd.prog 73 #[.pointer (some ⟨g, 0, none⟩), .agg #[.int .i64 op, .int .i64 a, .int .i64 b, .int .i64 c, .int .u64 m]] w
      (AP H w0 g M O (if Mc.there s ⟨op, a, b, c, m⟩ = true then (Mc.wr s ⟨op, a, b, c, m⟩ (Mc.lod s ⟨op, a, b, c, m⟩), nx, 0) else (s, nx, 2)) w) := by
  obtain ⟨cs, h1, h2⟩ := h.row
  obtain ⟨A, cap, hM, hcp, hmx, hx⟩ := own_open h.mo
  have h16 := h2.c16
  rw [hM] at h16
  have hlm := Nat.le_trans hcp hmx
  have ead : Mc.ad s ⟨op, a, b, c, m⟩ = (s.rg.getD b 0 + m) % 18446744073709551616 := by simp only [Mc.ad, rv_nat]
  split
  · rename_i ht
    have ht := of_decide_eq_true ht
    obtain ⟨k, hk⟩ := Int.eq_ofNat_of_zero_le (show 0 ≤ (s.rg.getD b 0 + m) % 18446744073709551616 by omega)
    have hkc : k + c ≤ s.mm.length := by rw [ead, hk] at ht; simp only at ht; omega
    have elod : Mc.lod s ⟨op, a, b, c, m⟩ = Mc.le ((s.mm.drop k).take c) := by
      unfold Mc.lod
      rw [ead, hk]
      simp
    rw [elod]
    obtain ⟨mb, cur, rfl, hob, hblk, hcs, htk⟩ := hx (by omega)
    refine (load_in g a b mb k c op c m _ ((s.mm.drop k).take c) cs w s.mm.length cap h1 h2.sz ha hb (h2.rg b hb) h16 hlm rfl hc hk hkc (by simp; omega) (Array.getElem?_eq_some_iff.1 hblk).1 (fun q hq => ?_) (fun z hz => Mc.isB_mem hB (List.mem_of_mem_drop (List.mem_of_mem_take hz)))).mono ?_
    · rw [row_cell hblk, take_get htk (by omega), getD_map' (by omega), List.getD_eq_getElem?_getD, List.getD_eq_getElem?_getD, List.getElem?_take_of_lt hq, List.getElem?_drop]
    rintro e w' ⟨he, hr, hf⟩
    exact AP.cells h he hr (h2.reg hl ha _) hf rfl rfl
  · rename_i ht
    have ht : ¬ (s.rg.getD b 0 + m) % 18446744073709551616 + (c : Int) ≤ s.mm.length := fun h3 => ht (decide_eq_true (by rw [ead]; exact h3))
    refine (load_out g b op a c m _ cs w A s.mm.length cap h1 hb (h2.rg b hb) h16 hlm (by omega) (by omega) ht).mono ?_
    rintro e w' ⟨he, hb⟩
    exact AP.still h he hb
theorem act_save (h : Rn H w0 g M O s nx w) (hr : ∀ x ∈ s.rg, 0 ≤ x ∧ x < 18446744073709551616) (a b c : Nat) (op m : Int) (ha : a < 8) (hb : b < 8) (hc0 : 0 < c) (hc : c ≤ 8) :
    Calls Tryd.prog 74 #[.pointer (some ⟨g, 0, none⟩), .agg #[.int .i64 op, .int .i64 a, .int .i64 b, .int .i64 c, .int .u64 m]] w
      (AP H w0 g M O (if Mc.there s ⟨op, a, b, c, m⟩ = true then ({ s with mm := Mc.sav s.mm (Mc.ad s ⟨op, a, b, c, m⟩).toNat (c : Int).toNat (Mc.rv s a) }, nx, 0) else (s, nx, 2)) w) := by
  obtain ⟨cs, h1, h2⟩ := h.row
  obtain ⟨A, cap, hM, hcp, hmx, hx⟩ := own_open h.mo
  have h16 := h2.c16
  rw [hM] at h16
  have hlm := Nat.le_trans hcp hmx
  have ead : Mc.ad s ⟨op, a, b, c, m⟩ = (s.rg.getD b 0 + m) % 18446744073709551616 := by simp only [Mc.ad, rv_nat]
  split
  · rename_i ht
    have ht := of_decide_eq_true ht
    obtain ⟨k, hk⟩ := Int.eq_ofNat_of_zero_le (show 0 ≤ (s.rg.getD b 0 + m) % 18446744073709551616 by omega)
    have hkc : k + c ≤ s.mm.length := by rw [ead, hk] at ht; simp only at ht; omega
    rw [ead, hk, rv_nat, show ((k : Int)).toNat = k by simp, show ((c : Int)).toNat = c by simp]
    obtain ⟨mb, cur, rfl, hob, hblk, hcs, htk⟩ := hx (by omega)
    have hy := Mc.rv_rng hr a
    rw [rv_nat] at hy
    have hmg : mb ≠ g := fun e => h.mg (by rw [hM, e]; rfl)
    have hMo : M.ownBlock = some mb := by rw [hM]; rfl
    refine (save_in g a b mb k c op c m _ _ cur cs w s.mm.length cap h1 h2.sz ha hb (h2.rg a ha) (h2.rg b hb) h16 hlm rfl hc hk hkc hblk (fun q hq => ⟨_, by rw [take_get htk hq, getD_map' hq]⟩) hy.1 hy.2 hmg).mono ?_
    rintro e w' ⟨he, hrr, hf⟩
    have hl2 : (Mc.sav s.mm k c (s.rg.getD a 0)).length = s.mm.length := Mc.sav_len hkc
    refine ⟨O, he, ⟨Below.of_fr h.bel hf hob (by simp) (by simp), ⟨cs, ?_, h2.mm _⟩, ?_, ?_, h.gb, h.mg, h.og, h.ne⟩, ?_, .inl rfl⟩
    · exact (hf.block g h1.lt (fun e => hmg e.symm) (by simp) (by simp)).trans h1
    · show w'.ownsRow _ 5 1 M (Mc.sav s.mm k c (s.rg.getD a 0)).length ((Mc.sav s.mm k c (s.rg.getD a 0)).map (Value.int .u8))
      rw [hl2, hM]
      exact ⟨by rw [List.length_map, Nat.mul_one]; exact hl2, .inr ⟨mb, cap, _, rfl, hob, hrr, hcp, hmx, by rw [svA_size]; simpa using hcs, by rw [Nat.mul_one]; exact sav_take htk hkc⟩⟩
    · exact ownsRow.blk h.oo fun k hk => hf.block k (h.oo.lt k hk).2 (fun e => h.ne mb hMo (by rw [hk, e])) (by simp) (by simp)
    · rw [hMo]
      exact ⟨hf.os, hf.tape, hf.output, hf.size, fun k hk _ h2 _ => hf.block k hk (fun e => h2 (by rw [e])) (by simp) (by simp)⟩
  · rename_i ht
    have ht : ¬ (s.rg.getD b 0 + m) % 18446744073709551616 + (c : Int) ≤ s.mm.length := fun h3 => ht (decide_eq_true (by rw [ead]; exact h3))
    refine (save_out g a b op c m _ _ cs w A s.mm.length cap h1 ha hb (h2.rg a ha) (h2.rg b hb) h16 hlm (by omega) (by omega) ht).mono ?_
    rintro e w' ⟨he, hb⟩
    exact AP.still h he hb

/-- Whatever an instruction that is right does. -/
theorem act_any (HA : HdAt w0 H) (h : Rn H w0 g M O s nx w) (hl : s.rg.length = 8) (hr : ∀ x ∈ s.rg, 0 ≤ x ∧ x < 18446744073709551616) (hB : Cd.isB s.mm) (ho : s.op.length ≤ 1000) (i : Im.I5) (hbad : Im.bad5 i = -1) (hm : 0 ≤ i.m) (hj : i.op = 21 ∨ i.op = 22 → i.m < 9223372036854775808) (hcall : i.op = 23 → i.m < H.lf) :
    Calls Tryd.prog (fnOf i.op.toNat) #[.pointer (some ⟨g, 0, none⟩), .agg #[.int .i64 i.op, .int .i64 i.a, .int .i64 i.b, .int .i64 i.c, .int .u64 i.m]] w (AP H w0 g M O (Mc.act H.p H.xs i s nx) w) := by
  obtain ⟨op, a, b, c, m⟩ := i
  simp only at hm hj hcall ⊢
  have hbad : Cd.bad op a b c m = -1 := hbad
  obtain ⟨o0, o1, a0, a1, b0, b1, c0, c1⟩ := Cd.bad_none hbad
  obtain ⟨n, rfl⟩ := Int.eq_ofNat_of_zero_le o0
  obtain ⟨a, rfl⟩ := Int.eq_ofNat_of_zero_le a0
  obtain ⟨b, rfl⟩ := Int.eq_ofNat_of_zero_le b0
  obtain ⟨c, rfl⟩ := Int.eq_ofNat_of_zero_le c0
  have ha : a < 8 := by omega
  have hb : b < 8 := by omega
  have hn : n < 26 := by omega
  have hc8 : c ≤ 8 := by omega
  have key : ∀ (k : Nat), n = k → Cd.kc k = 1 → c < 8 := fun k e hk => by
    have := bad_c hbad (by rw [e]; simpa using hk)
    omega
  have hc17 : n = 17 ∨ n = 18 → 0 < c := fun e => by
    rcases Nat.eq_zero_or_pos c with h0 | h0
    · rcases e with rfl | rfl <;> (rw [h0] at hbad; exact absurd (bad_w hbad rfl) (by decide))
    · exact h0
  match n, hn with
  | 0, _ =>
    obtain ⟨cs, h1, h2⟩ := h.row
    refine (halt_any g _ _ _ _ m w).mono ?_
    rintro e w' ⟨he, hb⟩
    exact AP.still h he hb
  | 25, _ =>
    obtain ⟨cs, h1, h2⟩ := h.row
    refine (fail_any g _ _ _ _ m w).mono ?_
    rintro e w' ⟨he, hb⟩
    exact AP.still h he hb
  | 1, _ => exact act_set h hl a 1 b c m ha
  | 2, _ => exact act_copy h hl a b 2 c m ha hb
  | 17, _ => exact act_load h hl hB a b c 17 m ha hb (hc17 (.inl rfl)) hc8
  | 18, _ => exact act_save h hr a b c 18 m ha hb (hc17 (.inr rfl)) hc8
  | 19, _ => exact act_read HA h hl a b 19 c m ha hb
  | 20, _ => exact act_length HA h hl a 20 b c m ha
  | 21, _ => exact act_jump h 21 a b c m hm (hj (.inl rfl))
  | 22, _ => exact act_branch h a 22 b c m ha hm (hj (.inr rfl))
  | 23, _ =>
    obtain ⟨k, rfl⟩ := Int.eq_ofNat_of_zero_le hm
    exact act_call HA h ho 23 a b c k (by have := hcall rfl; omega)
  | 24, _ => exact act_back h 24 a b c m
  | 6, _ => 
    have e : Mc.act H.p H.xs ⟨((6 : Nat) : Int), a, b, c, m⟩ s nx = (if Mc.rv s c = 0 then (s, nx, 3) else (Mc.wr s ⟨((6 : Nat) : Int), a, b, c, m⟩ (Wd.app (((6 : Nat) : Int) + 5) 64 (Mc.rv s b) (Mc.rv s c)), nx, 0)) := by simp [Mc.act]
    rw [e]
    exact act_divide h hl 6 a b c m (by decide) ha hb (key 6 rfl (by decide))
  | 7, _ => 
    have e : Mc.act H.p H.xs ⟨((7 : Nat) : Int), a, b, c, m⟩ s nx = (if Mc.rv s c = 0 then (s, nx, 3) else (Mc.wr s ⟨((7 : Nat) : Int), a, b, c, m⟩ (Wd.app (((7 : Nat) : Int) + 5) 64 (Mc.rv s b) (Mc.rv s c)), nx, 0)) := by simp [Mc.act]
    rw [e]
    exact act_divide h hl 7 a b c m (by decide) ha hb (key 7 rfl (by decide))
  | 3, _ => 
    have e : Mc.act H.p H.xs ⟨((3 : Nat) : Int), a, b, c, m⟩ s nx = (Mc.wr s ⟨((3 : Nat) : Int), a, b, c, m⟩ (Wd.app (((3 : Nat) : Int) + 5) 64 (Mc.rv s b) (Mc.rv s c)), nx, 0) := by simp [Mc.act]
    rw [e]
    exact act_apply h hl 3 a b c m (by decide) ha hb (key 3 rfl (by decide))
  | 4, _ => 
    have e : Mc.act H.p H.xs ⟨((4 : Nat) : Int), a, b, c, m⟩ s nx = (Mc.wr s ⟨((4 : Nat) : Int), a, b, c, m⟩ (Wd.app (((4 : Nat) : Int) + 5) 64 (Mc.rv s b) (Mc.rv s c)), nx, 0) := by simp [Mc.act]
    rw [e]
    exact act_apply h hl 4 a b c m (by decide) ha hb (key 4 rfl (by decide))
  | 5, _ => 
    have e : Mc.act H.p H.xs ⟨((5 : Nat) : Int), a, b, c, m⟩ s nx = (Mc.wr s ⟨((5 : Nat) : Int), a, b, c, m⟩ (Wd.app (((5 : Nat) : Int) + 5) 64 (Mc.rv s b) (Mc.rv s c)), nx, 0) := by simp [Mc.act]
    rw [e]
    exact act_apply h hl 5 a b c m (by decide) ha hb (key 5 rfl (by decide))
  | 8, _ => 
    have e : Mc.act H.p H.xs ⟨((8 : Nat) : Int), a, b, c, m⟩ s nx = (Mc.wr s ⟨((8 : Nat) : Int), a, b, c, m⟩ (Wd.app (((8 : Nat) : Int) + 5) 64 (Mc.rv s b) (Mc.rv s c)), nx, 0) := by simp [Mc.act]
    rw [e]
    exact act_apply h hl 8 a b c m (by decide) ha hb (key 8 rfl (by decide))
  | 9, _ => 
    have e : Mc.act H.p H.xs ⟨((9 : Nat) : Int), a, b, c, m⟩ s nx = (Mc.wr s ⟨((9 : Nat) : Int), a, b, c, m⟩ (Wd.app (((9 : Nat) : Int) + 5) 64 (Mc.rv s b) (Mc.rv s c)), nx, 0) := by simp [Mc.act]
    rw [e]
    exact act_apply h hl 9 a b c m (by decide) ha hb (key 9 rfl (by decide))
  | 10, _ => 
    have e : Mc.act H.p H.xs ⟨((10 : Nat) : Int), a, b, c, m⟩ s nx = (Mc.wr s ⟨((10 : Nat) : Int), a, b, c, m⟩ (Wd.app (((10 : Nat) : Int) + 5) 64 (Mc.rv s b) (Mc.rv s c)), nx, 0) := by simp [Mc.act]
    rw [e]
    exact act_apply h hl 10 a b c m (by decide) ha hb (key 10 rfl (by decide))
  | 11, _ => 
    have e : Mc.act H.p H.xs ⟨((11 : Nat) : Int), a, b, c, m⟩ s nx = (Mc.wr s ⟨((11 : Nat) : Int), a, b, c, m⟩ (Wd.app (((11 : Nat) : Int) + 5) 64 (Mc.rv s b) (Mc.rv s c)), nx, 0) := by simp [Mc.act]
    rw [e]
    exact act_apply h hl 11 a b c m (by decide) ha hb (key 11 rfl (by decide))
  | 12, _ => 
    have e : Mc.act H.p H.xs ⟨((12 : Nat) : Int), a, b, c, m⟩ s nx = (Mc.wr s ⟨((12 : Nat) : Int), a, b, c, m⟩ (Wd.app (((12 : Nat) : Int) + 5) 64 (Mc.rv s b) (Mc.rv s c)), nx, 0) := by simp [Mc.act]
    rw [e]
    exact act_apply h hl 12 a b c m (by decide) ha hb (key 12 rfl (by decide))
  | 13, _ => 
    have e : Mc.act H.p H.xs ⟨((13 : Nat) : Int), a, b, c, m⟩ s nx = (Mc.wr s ⟨((13 : Nat) : Int), a, b, c, m⟩ (Wd.app (((13 : Nat) : Int) + 5) 64 (Mc.rv s b) (Mc.rv s c)), nx, 0) := by simp [Mc.act]
    rw [e]
    exact act_apply h hl 13 a b c m (by decide) ha hb (key 13 rfl (by decide))
  | 14, _ => 
    have e : Mc.act H.p H.xs ⟨((14 : Nat) : Int), a, b, c, m⟩ s nx = (Mc.wr s ⟨((14 : Nat) : Int), a, b, c, m⟩ (Wd.app (((14 : Nat) : Int) + 5) 64 (Mc.rv s b) (Mc.rv s c)), nx, 0) := by simp [Mc.act]
    rw [e]
    exact act_apply h hl 14 a b c m (by decide) ha hb (key 14 rfl (by decide))
  | 15, _ => 
    have e : Mc.act H.p H.xs ⟨((15 : Nat) : Int), a, b, c, m⟩ s nx = (Mc.wr s ⟨((15 : Nat) : Int), a, b, c, m⟩ (Wd.app (((15 : Nat) : Int) + 5) 64 (Mc.rv s b) (Mc.rv s c)), nx, 0) := by simp [Mc.act]
    rw [e]
    exact act_apply h hl 15 a b c m (by decide) ha hb (key 15 rfl (by decide))
  | 16, _ => 
    have e : Mc.act H.p H.xs ⟨((16 : Nat) : Int), a, b, c, m⟩ s nx = (Mc.wr s ⟨((16 : Nat) : Int), a, b, c, m⟩ (Wd.app (((16 : Nat) : Int) + 5) 64 (Mc.rv s b) (Mc.rv s c)), nx, 0) := by simp [Mc.act]
    rw [e]
    exact act_apply h hl 16 a b c m (by decide) ha hb (key 16 rfl (by decide))
  | n + 26, h => exact absurd h (by omega)
end
end Go.Proofs.YtfhnigfghfmolaaDoor
