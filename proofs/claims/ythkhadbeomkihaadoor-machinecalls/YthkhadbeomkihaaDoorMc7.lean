/-
  through with save's closure; load and save.
-/
import Derived.Test.YthkhadbeomkihaaDoorMc6
namespace Go.Proofs.YthkhadbeomkihaaDoor
set_option maxRecDepth 100000
open Go.RowKit

abbrev SvV (X R : Nat) : Value := .func (.func 93) #[] #[.pointer (some ⟨X, 0, none⟩), .pointer (some ⟨R, 0, none⟩)]
theorem heap_newM {w : World} {o : Obj} {k : Nat} (h : k = w.heap.size) : (w.alloc o).heap[k]? = some o := by subst h; exact heap_alloc_new w o
theorem three (w : World) (o1 o2 o3 : Obj) : (((w.alloc o1).alloc o2).alloc o3).heap[w.heap.size]? = some o1 ∧ (((w.alloc o1).alloc o2).alloc o3).heap[w.heap.size + 1]? = some o2 ∧ (((w.alloc o1).alloc o2).alloc o3).heap[w.heap.size + 1 + 1]? = some o3 := by
  have h1 : (w.alloc o1).heap.size = w.heap.size + 1 := by simp
  have h2 : ((w.alloc o1).alloc o2).heap.size = w.heap.size + 1 + 1 := by simp
  have e0 : ∀ (k : Nat) (u : World) (o : Obj), k < u.heap.size → (u.alloc o).heap[k]? = u.heap[k]? := fun k u o hk => (Below.box u o).block k hk
  exact ⟨(e0 _ _ _ (by omega)).trans ((e0 _ _ _ (by omega)).trans (heap_newM rfl)), (e0 _ _ _ (by omega)).trans (heap_newM h1.symm), heap_newM h2.symm⟩
theorem row_cell {w : World} {b : Nat} {cs : Array Value} {t : TypeId} (h : w.heap[b]? = some (.cells cs t (0, 0))) (i : Nat) : w.cell? ⟨b, i, none⟩ = cs[i]? := cell_of_row _ _ _ _ _ _ h
/-- So many bytes of a number stored into a row of values. -/
def svA : Nat → Array Value → Nat → Int → Array Value
  | 0, cur, _, _ => cur
  | q + 1, cur, k, x => (svA q cur k x).setIfInBounds (k + q) (.int .u8 (x / 256 ^ q % 256))
theorem svA_past : ∀ (q : Nat) (cur : Array Value) (k : Nat) (x : Int) (i : Nat), k + q ≤ i → (svA q cur k x)[i]? = cur[i]?
  | 0, _, _, _, _, _ => rfl
  | q + 1, cur, k, x, i, h => by
    unfold svA
    rw [Array.getElem?_setIfInBounds_ne (by omega)]
    exact svA_past q cur k x i (by omega)
theorem svA_size : ∀ (q : Nat) (cur : Array Value) (k : Nat) (x : Int), (svA q cur k x).size = cur.size
  | 0, _, _, _ => rfl
  | q + 1, cur, k, x => by unfold svA; rw [Array.size_setIfInBounds]; exact svA_size q cur k x

set_option maxRecDepth 20000 in
set_option maxHeartbeats 3200000 in
theorem through_save (g b X R mb k cn : Nat) (op a c m x y : Int) (cur : Array Value) (cs : Array Value) (w : World) (n cap : Nat) (hb : RnB w g cs) (hl : b < 8) (hx : cs[8 + b]? = some (.int .u64 x)) (hm : cs[16]? = some (.slice (some ⟨mb, 0, none⟩) n cap)) (hn : n ≤ maxLen) (hc : c = cn) (c1 : cn ≤ 8)
    (hk : (x + m) % 18446744073709551616 = k) (h : k + cn ≤ n) (hM : w.heap[mb]? = some (.cells cur 5 (0, 0))) (hz : ∀ q, q < n → ∃ z, cur[q]? = some (.int .u8 z)) (y0 : 0 ≤ y) (y1 : y < 18446744073709551616)
    (hX : w.cell? ⟨X, 0, none⟩ = some (.int .u64 y)) (hR : w.cell? ⟨R, 0, none⟩ = some (.pointer (some ⟨g, 0, none⟩))) (hmg : mb ≠ g) (hmX : mb ≠ X) (hmR : mb ≠ R) :
    Calls Tryd.prog 91 #[.pointer (some ⟨g, 0, none⟩), .agg #[.int .i64 op, .int .i64 a, .int .i64 b, .int .i64 c, .int .u64 m], SvV X R] w fun e w' => e = .returned (.bool true) ∧ w'.heap[mb]? = some (.cells (svA cn cur k y) 5 (0, 0)) ∧ Fr mb none none w w' := by
  unfold maxLen at hn
  subst hc
  have e1 : IntKind.u64.wrap (n : Int) = n := by rw [IntKind.wrap_u64]; omega
  have e2 : IntKind.u64.wrap (x + m) = (k : Int) := by rw [IntKind.wrap_u64]; exact hk
  have e3 : IntKind.u64.wrap (cn : Int) = cn := by rw [IntKind.wrap_u64]; omega
  have E2 := Lib.hid e2
  have HMB := Lib.hid hb
  have HM := Lib.hid hm
  have HXX := Lib.hid hX
  have HRR := Lib.hid hR
  have HZS := Lib.hid hz
  have HMM := Lib.hid hM
  have HXR := Lib.hid hmR
  have HXM := Lib.hid hmX
  have HXG := Lib.hid hmg
  have HY := Lib.hid (And.intro y0 y1)
  clear e2 hX hR hz hk hM hmR hmX hmg y0 y1
  have hf1 : (w.alloc (.cells #[.int .i64 op, .int .i64 a, .int .i64 b, .int .i64 (cn : Int), .int .u64 m] 59)).cell? ⟨w.heap.size, 0, none⟩ = some (.int .i64 op) ∧ (w.alloc (.cells #[.int .i64 op, .int .i64 a, .int .i64 b, .int .i64 (cn : Int), .int .u64 m] 59)).cell? ⟨w.heap.size, 1, none⟩ = some (.int .i64 a) ∧ (w.alloc (.cells #[.int .i64 op, .int .i64 a, .int .i64 b, .int .i64 (cn : Int), .int .u64 m] 59)).cell? ⟨w.heap.size, 2, none⟩ = some (.int .i64 b) ∧ (w.alloc (.cells #[.int .i64 op, .int .i64 a, .int .i64 b, .int .i64 (cn : Int), .int .u64 m] 59)).cell? ⟨w.heap.size, 3, none⟩ = some (.int .i64 (cn : Int)) ∧ (w.alloc (.cells #[.int .i64 op, .int .i64 a, .int .i64 b, .int .i64 (cn : Int), .int .u64 m] 59)).cell? ⟨w.heap.size, 4, none⟩ = some (.int .u64 m) := by simp
  have h16 : (w.alloc (.cells #[.int .i64 op, .int .i64 a, .int .i64 b, .int .i64 (cn : Int), .int .u64 m] 59)).cell? ⟨g, 16, none⟩ = some (.slice (some ⟨mb, 0, none⟩) n cap) := hb.cA hm _
  have hR1 : RnB (w.alloc (.cells #[.int .i64 op, .int .i64 a, .int .i64 b, .int .i64 (cn : Int), .int .u64 m] 59)) g cs := hb.box _
  have hB : Below w.heap.size w (w.alloc (.cells #[.int .i64 op, .int .i64 a, .int .i64 b, .int .i64 (cn : Int), .int .u64 m] 59)) := Below.box _ _
  have hzz : (w.alloc (.cells #[.int .i64 op, .int .i64 a, .int .i64 b, .int .i64 (cn : Int), .int .u64 m] 59)).heap.size = w.heap.size + 1 := by simp
  have hg : g < (w.alloc (.cells #[.int .i64 op, .int .i64 a, .int .i64 b, .int .i64 (cn : Int), .int .u64 m] 59)).heap.size := hR1.lt
  have HF := Lib.hid hf1
  have H16 := Lib.hid h16
  have HR := Lib.hid hR1
  have HB := Lib.hid hB
  have HZ := Lib.hid hzz
  have HG := Lib.hid hg
  have HX := Lib.hid hx
  clear hf1 h16 hR1 hB hzz hg hb hm hx
  go_enter Tryd.func91, Tryd.ntmps91
  go_wp2_with fail
  generalize w.alloc (.cells #[.int .i64 op, .int .i64 a, .int .i64 b, .int .i64 (cn : Int), .int .u64 m] 59) = w1 at *
  refine wp_region_held_drew (S := fun W => Below w1.heap.size w1 W) (by kernel_rfl) (Below.refl _ _).drew (fun hHeld => ?_)
  refine wpAnyH_take (i := 0) (v := .pointer (some ⟨g, 0, none⟩)) rfl (by kernel_rfl) (by kernel_rfl) (by kernel_rfl) (fun _ _ _ h => h) (Or.inl ⟨by rfl, fun w9 hSw => ?_⟩) hHeld ?_
  · (try dsimp only at hSw)
    go_simp
  try simp only [List.getElem_toArray, List.getElem_cons_succ, List.getElem_cons_zero, Act.put, List.setIfInBounds_toArray, List.set_cons_zero, List.set_cons_succ]
  refine wpAnyH_take (i := 1) (v := .agg #[.int .i64 op, .int .i64 a, .int .i64 b, .int .i64 (cn : Int), .int .u64 m]) rfl (by kernel_rfl) (by kernel_rfl) (by kernel_rfl) (fun _ _ _ h => h) (Or.inl ⟨by rfl, fun w9 hSw => ?_⟩) hHeld ?_
  · (try dsimp only at hSw)
    have q0 := cells_below hSw HF.out.1 (by simp [HZ.out])
    have q1 := cells_below hSw HF.out.2.1 (by simp [HZ.out])
    have q2 := cells_below hSw HF.out.2.2.1 (by simp [HZ.out])
    have q3 := cells_below hSw HF.out.2.2.2.1 (by simp [HZ.out])
    have q4 := cells_below hSw HF.out.2.2.2.2 (by simp [HZ.out])
    go_simp
  try simp only [List.getElem_toArray, List.getElem_cons_succ, List.getElem_cons_zero, Act.put, List.setIfInBounds_toArray, List.set_cons_zero, List.set_cons_succ]
  refine wpAnyH_take (i := 3) (v := .pointer (some ⟨g, 0, none⟩)) rfl (by kernel_rfl) (by kernel_rfl) (by kernel_rfl) (fun _ _ _ h => h) (Or.inl ⟨by rfl, fun w9 hSw => ?_⟩) hHeld ?_
  · (try dsimp only at hSw)
    go_simp
  try simp only [List.getElem_toArray, List.getElem_cons_succ, List.getElem_cons_zero, Act.put, List.setIfInBounds_toArray, List.set_cons_zero, List.set_cons_succ]
  refine wpAnyH_take (i := 4) (v := .pointer (some ⟨g, 0, none⟩)) rfl (by kernel_rfl) (by kernel_rfl) (by kernel_rfl) (fun _ _ _ h => h) (Or.inl ⟨by rfl, fun w9 hSw => ?_⟩) hHeld ?_
  · (try dsimp only at hSw)
    go_simp
  try simp only [List.getElem_toArray, List.getElem_cons_succ, List.getElem_cons_zero, Act.put, List.setIfInBounds_toArray, List.set_cons_zero, List.set_cons_succ]
  refine wpAnyH_take (i := 5) (v := .pointer (some ⟨g, 7, none⟩)) rfl (by kernel_rfl) (by kernel_rfl) (by kernel_rfl) (fun _ _ _ h => h) (Or.inl ⟨by rfl, fun w9 hSw => ?_⟩) hHeld ?_
  · (try dsimp only at hSw)
    go_simp
  try simp only [List.getElem_toArray, List.getElem_cons_succ, List.getElem_cons_zero, Act.put, List.setIfInBounds_toArray, List.set_cons_zero, List.set_cons_succ]
  refine wpAnyH_take (i := 6) (v := .pointer (some ⟨g, 16, none⟩)) rfl (by kernel_rfl) (by kernel_rfl) (by kernel_rfl) (fun _ _ _ h => h) (Or.inl ⟨by rfl, fun w9 hSw => ?_⟩) hHeld ?_
  · (try dsimp only at hSw)
    go_simp
  try simp only [List.getElem_toArray, List.getElem_cons_succ, List.getElem_cons_zero, Act.put, List.setIfInBounds_toArray, List.set_cons_zero, List.set_cons_succ]
  refine wpAnyH_take (i := 7) (v := .slice (some ⟨mb, 0, none⟩) n cap) rfl (by kernel_rfl) (by kernel_rfl) (by kernel_rfl) (fun _ _ _ h => h) (Or.inl ⟨by rfl, fun w9 hSw => ?_⟩) hHeld ?_
  · (try dsimp only at hSw)
    have q16 := cells_below hSw H16.out HG.out
    go_simp
  try simp only [List.getElem_toArray, List.getElem_cons_succ, List.getElem_cons_zero, Act.put, List.setIfInBounds_toArray, List.set_cons_zero, List.set_cons_succ]
  refine wpAnyH_take (i := 8) (v := .int .i64 n) rfl (by kernel_rfl) (by kernel_rfl) (by kernel_rfl) (fun _ _ _ h => h) (Or.inl ⟨by rfl, fun w9 hSw => ?_⟩) hHeld ?_
  · (try dsimp only at hSw)
    go_simp
  try simp only [List.getElem_toArray, List.getElem_cons_succ, List.getElem_cons_zero, Act.put, List.setIfInBounds_toArray, List.set_cons_zero, List.set_cons_succ]
  refine wpAnyH_take (i := 9) (v := .int .u64 n) rfl (by kernel_rfl) (by kernel_rfl) (by kernel_rfl) (fun _ _ _ h => h) (Or.inl ⟨by rfl, fun w9 hSw => ?_⟩) hHeld ?_
  · (try dsimp only at hSw)
    go_simp
  try simp only [List.getElem_toArray, List.getElem_cons_succ, List.getElem_cons_zero, Act.put, List.setIfInBounds_toArray, List.set_cons_zero, List.set_cons_succ]
  refine wpAnyH_ready (rs := [2]) (by kernel_rfl) (by simp) ?_
  refine (AllReadyH.cons rfl (fun K hK => ?_) AllReadyH.nil)
  go_simp
  go_at_call 94
  refine (address_any g b op a cn m x cs _ HR.out.drew HX.out hl).mono ?_
  rintro e v ⟨rfl, hbv⟩
  refine hK.out _ _ ((Below.refl _ _).drew.trans hbv) (fun hHeld => ?_)
  clear hK K
  try simp only [List.getElem_toArray, List.getElem_cons_succ, List.getElem_cons_zero, Act.put, List.setIfInBounds_toArray, List.set_cons_zero, List.set_cons_succ]
  refine wpAnyH_take (i := 10) (v := .int .u64 (IntKind.u64.wrap (x + m))) rfl (by kernel_rfl) (by kernel_rfl) (by kernel_rfl) (fun _ _ _ h => h) (Or.inl ⟨by rfl, fun w9 hSw => ?_⟩) hHeld ?_
  · (try dsimp only at hSw)
    go_simp
  try simp only [List.getElem_toArray, List.getElem_cons_succ, List.getElem_cons_zero, Act.put, List.setIfInBounds_toArray, List.set_cons_zero, List.set_cons_succ]
  refine wpAnyH_take (i := 11) (v := .int .u64 n) rfl (by kernel_rfl) (by kernel_rfl) (by kernel_rfl) (fun _ _ _ h => h) (Or.inl ⟨by rfl, fun w9 hSw => ?_⟩) hHeld ?_
  · (try dsimp only at hSw)
    go_simp
  try simp only [List.getElem_toArray, List.getElem_cons_succ, List.getElem_cons_zero, Act.put, List.setIfInBounds_toArray, List.set_cons_zero, List.set_cons_succ]
  refine wpAnyH_done (by kernel_rfl) ?_ _
  rw [E2.out]
  have hbv' : Below w1.heap.size w1 v := hHeld
  have q3 := cells_below hbv' HF.out.2.2.2.1 (by simp [HZ.out])
  have hBv : Below w.heap.size w v := HB.out.trans (hbv'.mono (by simp [HZ.out]))
  have HH := Lib.hid hBv
  clear hHeld hbv' hbv hBv
  have hgt : ¬ (n : Int) < k := by omega
  have e4 : IntKind.u64.wrap ((n : Int) - k) = n - k := by rw [IntKind.wrap_u64]; omega
  have hlt : ¬ (n : Int) - k < cn := by omega
  have hml : mb < w.heap.size := by
    rcases Nat.lt_or_ge mb w.heap.size with h1 | h1
    · exact h1
    · have := HMM.out; rw [Array.getElem?_eq_none h1] at this; cases this
  go_wp2
  go_loopw [9, 34] (fun _ i wr => ∃ q : Nat, q ≤ cn ∧ i = .int .i64 q ∧ wr.heap[mb]? = some (.cells (svA q cur k y) 5 (0, 0)) ∧ Fr mb none none w wr) (fun _ i _ => cn - (intOf i).toNat)
  case atStart => exact ⟨0, by omega, rfl, (HH.out.block mb hml).trans HMM.out, Fr.of_below HH.out⟩
  case round =>
    obtain ⟨q, hq, rfl, hXq, hfr⟩ := hrel
    have HXQ := Lib.hid hXq
    have HFR := Lib.hid hfr
    clear hXq hfr
    by_cases hqc : q < cn
    · have hql : (q : Int) < cn := by omega
      have e5 : IntKind.u64.wrap (q : Int) = q := by rw [IntKind.wrap_u64]; omega
      have e6 : IntKind.u64.wrap ((k : Int) + q) = ((k + q : Nat) : Int) := by rw [IntKind.wrap_u64]; omega
      have e7 : IntKind.i64.wrap (8 * (q : Int)) = 8 * q := by rw [IntKind.wrap_i64]; omega
      have old : ∀ (B i : Nat), B < w.heap.size → mb ≠ B → wr.cell? ⟨B, i, none⟩ = w.cell? ⟨B, i, none⟩ := fun B i h1 h2 => World.cell?_of_block (HFR.out.block B h1 (Ne.symm h2) (by simp) (by simp))
      have hXl : X < w.heap.size := World.block_lt_of_cell? _ _ HXX.out
      have hRl : R < w.heap.size := World.block_lt_of_cell? _ _ HRR.out
      have cX := (old X 0 hXl HXM.out).trans HXX.out
      have cR := (old R 0 hRl HXR.out).trans HRR.out
      have cM := (old g 16 HMB.out.lt HXG.out).trans ((HMB.out.c 16).trans HM.out)
      obtain ⟨z, hz⟩ := HZS.out (k + q) (by omega)
      have cZ : wr.cell? ⟨mb, k + q, none⟩ = some (.int .u8 z) := by rw [cell_of_row _ _ _ _ _ _ HXQ.out, svA_past _ _ _ _ _ (Nat.le_refl _)]; exact hz
      have hcl := save_clo g X R mb cap n (k + q) q y z wr cX cR cM (by omega) (by unfold maxLen; omega) cZ (Joins.unfrozen_of_block HXQ.out _) (by omega) HY.out.1 HY.out.2
      have HCL := Lib.hid hcl
      clear old cX cR cM cZ hcl hz
      go_wp2_with (go_at_call 93; refine HCL.out.mono ?_; rintro e v2 ⟨rfl, rfl⟩)
      go_roundw
      case rel =>
        refine ⟨q + 1, by omega, by go_num, ?_, ?_⟩
        · exact Joins.block_setCell HXQ.out _
        · exact HFR.out.trans (Fr.set _ _ _).drew
      case measure => simp [intOf]; omega
    · have hqe : q = cn := by omega
      have HQE := Lib.hid hqe
      have hql : ¬ (q : Int) < cn := by omega
      clear hqe
      go_wp2
      go_ret
      exact ⟨rfl, by rw [← HQE.out]; exact HXQ.out, HFR.out⟩

set_option maxRecDepth 20000 in
set_option maxHeartbeats 3200000 in
theorem load_out (g b : Nat) (op a c m x : Int) (cs : Array Value) (w : World) (A : Option Addr) (n cap : Nat) (hb : RnB w g cs) (hl : b < 8) (hx : cs[8 + b]? = some (.int .u64 x)) (hm : cs[16]? = some (.slice A n cap)) (hn : n ≤ maxLen) (c0 : 0 ≤ c) (c1 : c ≤ 8) (h : ¬ (x + m) % 18446744073709551616 + c ≤ n) :
    Calls Tryd.prog 73 #[.pointer (some ⟨g, 0, none⟩), .agg #[.int .i64 op, .int .i64 a, .int .i64 b, .int .i64 c, .int .u64 m]] w fun e w' => e = .returned (.int .i64 2) ∧ Below w.heap.size w w' := by
  have HB := Lib.hid hb
  have HH := Lib.hid h
  clear hb h
  go_enter Tryd.func73, Tryd.ntmps73
  go_wp2_with fail
  refine (through_out g b op a c m x _ cs _ A n cap (((HB.out.box _).box _).box _) hl hx hm hn c0 c1 (by have := HH.out; omega)).mono ?_
  rintro e v ⟨rfl, hbv⟩
  have hB : Below w.heap.size w v := ((((Below.refl _ _).alloc (Nat.le_refl _) _).alloc (by simp) _).alloc (by simp; omega) _).trans (hbv.mono (by simp; omega))
  have HB2 := Lib.hid hB
  clear hB hbv
  go_wp2
  go_ret
  exact ⟨rfl, HB2.out⟩

set_option maxRecDepth 20000 in
set_option maxHeartbeats 3200000 in
theorem load_in (g a b mb k cn : Nat) (op c m x : Int) (zs : List Int) (cs : Array Value) (w : World) (n cap : Nat) (hb : RnB w g cs) (hz : cs.size = 45) (ha : a < 8) (hl : b < 8) (hx : cs[8 + b]? = some (.int .u64 x)) (hm : cs[16]? = some (.slice (some ⟨mb, 0, none⟩) n cap)) (hn : n ≤ maxLen) (hc : c = cn) (c1 : cn ≤ 8)
    (hk : (x + m) % 18446744073709551616 = k) (h : k + cn ≤ n) (hzl : zs.length = cn) (hml : mb < w.heap.size) (hzz : ∀ q, q < cn → w.cell? ⟨mb, k + q, none⟩ = some (.int .u8 (zs.getD q 0))) (hzr : ∀ z ∈ zs, 0 ≤ z ∧ z ≤ 255) :
    Calls Tryd.prog 73 #[.pointer (some ⟨g, 0, none⟩), .agg #[.int .i64 op, .int .i64 a, .int .i64 b, .int .i64 c, .int .u64 m]] w fun e w' =>
      e = .returned (.int .i64 0) ∧ RnB w' g (cs.setIfInBounds (8 + a) (.int .u64 (Mc.le zs))) ∧ Fr g none none w w' := by
  subst hc
  have HB := Lib.hid hb
  have HZZ := Lib.hid hzz
  have HZR := Lib.hid hzr
  have hgl := hb.lt
  clear hb hzz hzr
  have hB3 : ∀ o1 o2 o3, Below w.heap.size w (((w.alloc o1).alloc o2).alloc o3) := fun o1 o2 o3 => (((Below.refl _ _).alloc (Nat.le_refl _) _).alloc (by simp) _).alloc (by simp; omega) _
  have H3 := Lib.hid hB3
  clear hB3
  go_enter Tryd.func73, Tryd.ntmps73
  go_wp2_with fail
  refine (through_load g b (w.heap.size + 1 + 1) w.heap.size mb k cn op a cn m x zs cs _ n cap (((HB.out.box _).box _).box _) hl hx hm hn rfl c1 hk h hzl (fun q hq => ((H3.out _ _ _).cell (p := ⟨mb, k + q, none⟩) hml).trans (HZZ.out q hq)) HZR.out ?_ ?_ (by omega) (by omega) (by omega)).mono ?_
  · exact (three _ _ _ _).2.2
  · exact row_cell (three _ _ _ _).1 0
  rintro e v ⟨rfl, hXv, hfv⟩
  have hRv : RnB v g cs := (hfv.block g (by simp; omega) (by omega) (by simp) (by simp)).trans (((HB.out.box _).box _).box _)
  have cX : v.cell? ⟨w.heap.size + 1 + 1, 0, none⟩ = some (.int .u64 (Mc.le zs)) := by rw [cell_of_row _ _ _ _ _ _ hXv]; rfl
  have hF : Fr g none none w v := ⟨hfv.os, hfv.tape, hfv.output, Nat.le_trans (by simp; omega) hfv.size, fun i hi _ _ _ => (hfv.block i (by simp; omega) (by omega) (by simp) (by simp)).trans ((H3.out _ _ _).block i hi)⟩
  have cr : v.cell? ⟨w.heap.size, 0, none⟩ = some (.pointer (some ⟨g, 0, none⟩)) := (World.cell?_of_block (hfv.block w.heap.size (by simp; omega) (by omega) (by simp) (by simp))).trans (row_cell (three _ _ _ _).1 0)
  have hbx : v.heap[w.heap.size + 1]? = some (.cells #[.int .i64 op, .int .i64 a, .int .i64 b, .int .i64 (cn : Int), .int .u64 m] 59 (0, 0)) := (hfv.block (w.heap.size + 1) (by simp) (by omega) (by simp) (by simp)).trans (three _ _ _ _).2.1
  have cb : ∀ i, v.cell? ⟨w.heap.size + 1, i, none⟩ = (#[.int .i64 op, .int .i64 a, .int .i64 b, .int .i64 (cn : Int), .int .u64 m] : Array Value)[i]? := fun i => cell_of_row _ _ _ _ _ _ hbx
  have b0 := cb 0
  have b1 := cb 1
  have b2 := cb 2
  have b3 := cb 3
  have b4 := cb 4
  simp at b0 b1 b2 b3 b4
  have HRV := Lib.hid hRv
  have HF := Lib.hid hF
  clear cb hRv hF hXv hfv hbx
  go_wp2_with fail
  refine (put_reg g a op b cn m _ cs _ HRV.out hz ha).mono ?_
  rintro e v2 ⟨rfl, h2, h3⟩
  go_wp2
  go_ret
  exact ⟨rfl, h2, HF.out.trans h3⟩
end Go.Proofs.YthkhadbeomkihaaDoor
