/-
  The walk of the law on a term's parts.
-/
import Derived.Test.YtfehmbcgehflmaaTmL1
import Derived.Test.YtfehmbcgehflmaaTmS
namespace Go.Proofs.Ytfehmbcgehflmaa
set_option linter.unusedSimpArgs false
set_option linter.unusedVariables false
open Go.RowKit Go.Maps

set_option maxRecDepth 20000 in
set_option maxHeartbeats 1000000 in
theorem parts_none (A : Option Addr) (len cap : Nat) (cut : Int) (nd : Tm.Nd) (w : World) (h : 300 < len ∨ cut < 1 ∨ (len : Int) < cut) :
    Calls Try.prog 7 #[.slice A len cap, .int .i64 cut, ndv nd] w fun e w' => e = .returned (.bool true) ∧ Below w.heap.size w w' := by
  obtain ⟨op, v, n, a, b, c⟩ := nd
  dsimp only [ndv]
  have HH := Lib.hid h
  clear h
  go_enter Try.func7, Try.ntmps7
  go_wp2_with fail
  refine (awake_any _).mono ?_
  rintro e v1 ⟨rfl, hb⟩
  have HB := Lib.hid ((Below.box w (.cells #[.int .i64 op, .int .i64 v, .int .u64 n, .int .i64 a, .int .i64 b, .int .i64 c] 38)).trans (hb.mono (by simp)))
  clear hb
  by_cases h1 : 300 < len
  · have h1' : (300 : Int) < len := by omega
    go_wp2
    go_ret
    exact ⟨rfl, HB.out⟩
  · have h1' : ¬ (300 : Int) < len := by omega
    by_cases h2 : cut < 1
    · go_wp2
      go_ret
      exact ⟨rfl, HB.out⟩
    · have h3 : (len : Int) < cut := by have := HH.out; omega
      go_wp2
      go_ret
      exact ⟨rfl, HB.out⟩

theorem beq_of_bne {x : Int} (h : (x != 0) = true) : (x == 0) = false := by simpa using h
def Tm.three (E1 E2 F1 F2 G1 G2 : Int) (len : Nat) : Prop :=
  (E1 = 0 ∧ F1 = 0 ∧ F2 = 0 ∧ ((G1 = 0 ∧ G2 = 0) ∨ ((G1 != 0) = true ∧ G2 = len))) ∨ ((E1 != 0) = true ∧ F1 = 0 ∧ G1 = E1 ∧ G2 = E2) ∨ ((E1 != 0) = true ∧ F1 = E1 ∧ F2 = E2 ∧ G1 = E1 ∧ G2 = E2)
theorem Tm.three_of {X : List Tm.Nd} {k : Nat} {nd : Tm.Nd} (h : Tm.parts X k nd) : Tm.three (Tm.chk X).1 (Tm.chk X).2 (Tm.chk (X.take k)).1 (Tm.chk (X.take k)).2 (Tm.chk (X ++ [nd])).1 (Tm.chk (X ++ [nd])).2 X.length := by
  unfold Tm.parts at h
  unfold Tm.three
  generalize (Tm.chk X).1 = E1 at *
  generalize (Tm.chk X).2 = E2 at *
  generalize (Tm.chk (X.take k)).1 = F1 at *
  generalize (Tm.chk (X.take k)).2 = F2 at *
  generalize (Tm.chk (X ++ [nd])).1 = G1 at *
  generalize (Tm.chk (X ++ [nd])).2 = G2 at *
  simp only [Bool.or_eq_false_iff, Bool.and_eq_false_iff, Bool.or_eq_true, Bool.and_eq_true, beq_iff_eq, bne_iff_ne, ne_eq, beq_eq_false_iff_ne, bne_eq_false_iff_eq] at h ⊢
  omega

set_option maxRecDepth 100000 in
set_option maxHeartbeats 8000000 in
theorem parts_some (A : Option Addr) (len cap : Nat) (X : List Tm.Nd) (k : Nat) (nd : Tm.Nd) (w : World) (hx : NdSl w A len cap X) (hw : Tm.Wf nd) (h1 : len ≤ 300) (h2 : 1 ≤ k) (h3 : k ≤ len) :
    Calls Try.prog 7 #[.slice A len cap, .int .i64 k, ndv nd] w fun e w' => e = .returned (.bool true) ∧ Below w.heap.size w w' := by
  obtain ⟨bb, oo, rfl, hbb, hmem⟩ := hx.nd.mem (by omega)
  clear hbb hmem
  have HPA := Lib.hid (Tm.parts_all X k nd h2 (by have := hx.hlen; omega))
  have hcl := hx.nd.hle
  have hcm := hx.nd.hcap
  unfold maxLen at hcm
  have HXL := Lib.hid hx.hlen
  have HWN := Lib.hid hw
  have HBX0 := Lib.hid (Bx.new w nd)
  have hb0 := Below.box w (.cells #[.int .i64 nd.op, .int .i64 nd.w, .int .u64 nd.n, .int .i64 nd.a, .int .i64 nd.b, .int .i64 nd.c] 38)
  have HX0 := Lib.hid (hx.below hb0)
  have HB0 := Lib.hid hb0
  have HWX := Lib.hid hx.wf
  have HSZ := Lib.hid (show len + 1 ≤ 1000000 by omega)
  have HC1 := Lib.hid (show len ≤ 65536 by omega)
  have HC2 := Lib.hid (show len + 1 ≤ 65536 by omega)
  have HC3 := Lib.hid (show k ≤ 65536 by omega)
  have HK3 := Lib.hid h3
  have g1 : ¬ (300 : Int) < len := by omega
  have g2 : ¬ (k : Int) < 1 := by omega
  have g3 : ¬ (len : Int) < k := by omega
  have g4 : (k : Int) ≤ cap := by omega
  have g5 : k ≤ cap := by omega
  have HSW := Lib.hid (show w.heap.size < (w.alloc (.cells #[.int .i64 nd.op, .int .i64 nd.w, .int .u64 nd.n, .int .i64 nd.a, .int .i64 nd.b, .int .i64 nd.c] 38)).heap.size by simp)
  clear hx hw hb0 h1 h2 h3
  obtain ⟨op, v, n, a, b, c⟩ := nd
  dsimp only [ndv] at *
  go_enter Try.func7, Try.ntmps7
  go_wp2_with fail
  refine (awake_any _).mono ?_
  rintro e v1 ⟨rfl, hb⟩
  have HX1 := Lib.hid (HX0.out.below hb)
  have HB1 := Lib.hid (HB0.out.trans (hb.mono HB0.out.size))
  have HBX1 := Lib.hid (HBX0.out.keep (hb.block _ HSW.out))
  have HSW1 := Lib.hid (Nat.lt_of_lt_of_le HSW.out hb.size)
  clear hb HX0 HB0 HBX0 HSW
  go_wp2_with fail
  refine (check_any _ len cap X v1 HX1.out.nd HXL.out HX1.out.u HC1.out).mono ?_
  rintro e v2 ⟨rfl, hb⟩
  have HX2 := Lib.hid (HX1.out.below hb)
  have HB2 := Lib.hid (HB1.out.trans (hb.mono HB1.out.size))
  have HBX2 := Lib.hid (HBX1.out.keep (hb.block _ HSW1.out))
  have HSW2 := Lib.hid (Nat.lt_of_lt_of_le HSW1.out hb.size)
  clear hb HX1 HB1 HBX1 HSW1
  have hnt : NdR v2 (some ⟨bb, oo, none⟩) k cap (X.take k) := by
    have h := HX2.out.nd.cut HK3.out (by simp)
    refine ⟨h.hle, h.hcap, h.hnone, fun h0 => ?_⟩
    obtain ⟨b', o', e', hl', hx'⟩ := h.mem h0
    refine ⟨b', o', e', hl', fun i hi => ?_⟩
    rw [show (X.take k).getD i Tm.z = X.getD i Tm.z by rw [List.getD_eq_getElem?_getD, List.getD_eq_getElem?_getD, List.getElem?_take_of_lt hi]]
    exact hx' i hi
  have htw : NdSl v2 (some ⟨bb, oo, none⟩) k cap (X.take k) := ⟨by rw [List.length_take]; have := HXL.out; have := HK3.out; omega, hnt, fun x hx => HWX.out x (List.mem_of_mem_take hx)⟩
  have HTW := Lib.hid htw
  clear hnt htw
  go_wp2_with fail
  refine (check_any _ k cap (X.take k) v2 HTW.out.nd HTW.out.hlen HTW.out.u HC3.out).mono ?_
  rintro e V ⟨rfl, hb⟩
  have HSL := Lib.hid (HX2.out.below hb)
  have HB := Lib.hid (HB2.out.trans (hb.mono HB2.out.size))
  have HBX := Lib.hid (HBX2.out.keep (hb.block _ HSW2.out))
  have HBL := Lib.hid (Nat.lt_of_lt_of_le HSW2.out hb.size)
  clear hb HX2 HB2 HBX2 HSW2 HTW
  have HP3 := HPA.out
  clear HPA
  obtain ⟨E1, E2, F1, F2, G1, G2, hE, hF, hG, hcs⟩ : ∃ E1 E2 F1 F2 G1 G2, Tm.chk X = (E1, E2) ∧ Tm.chk (X.take k) = (F1, F2) ∧ Tm.chk (X ++ [(⟨op, v, n, a, b, c⟩ : Tm.Nd)]) = (G1, G2) ∧ Tm.three E1 E2 F1 F2 G1 G2 len := by
    have h := Tm.three_of HP3
    rw [HXL.out] at h
    exact ⟨_, _, _, _, _, _, rfl, rfl, rfl, h⟩
  rw [hE, hF]
  obtain ⟨Y1, hY1⟩ : ∃ Y1, Y1 = G1 := ⟨_, rfl⟩
  obtain ⟨Y2, hY2⟩ : ∃ Y2, Y2 = G2 := ⟨_, rfl⟩
  rw [← hY1, ← hY2] at hG
  have HG := Lib.hid hG
  have HY1 := Lib.hid hY1
  have HY2 := Lib.hid hY2
  clear hE hF hG HP3 hY1 hY2
  dsimp only
  rcases hcs with ⟨rfl, rfl, rfl, ⟨rfl, rfl⟩ | ⟨hg1, rfl⟩⟩ | ⟨he1, rfl, rfl, rfl⟩ | ⟨he1, rfl, rfl, rfl, rfl⟩
  all_goals (try have he2 := beq_of_bne he1)
  all_goals (try have hg2 := beq_of_bne hg1)
  all_goals
    go_upto_region 9 with fail
    have HSB := Lib.hid (show ∀ W, Below V.heap.size V W → (fun W => W.cell? ⟨w.heap.size, 0, none⟩ = some (.int .i64 op) ∧ W.cell? ⟨w.heap.size, 1, none⟩ = some (.int .i64 v) ∧ W.cell? ⟨w.heap.size, 2, none⟩ = some (.int .u64 n) ∧ W.cell? ⟨w.heap.size, 3, none⟩ = some (.int .i64 a) ∧ W.cell? ⟨w.heap.size, 4, none⟩ = some (.int .i64 b) ∧ W.cell? ⟨w.heap.size, 5, none⟩ = some (.int .i64 c)) W from fun W hW => (HBX.out.keep (hW.block _ HBL.out)).six)
    have bE : Below V.heap.size V (V.alloc (.cells #[] 38)).drew := (Below.box _ _).drew
    have bN : Below V.heap.size V (V.alloc (.cells #[.int .i64 op, .int .i64 v, .int .u64 n, .int .i64 a, .int .i64 b, .int .i64 c] 38)).drew := (Below.box _ _).drew
    have bEN : Below V.heap.size V ((V.alloc (.cells #[] 38)).alloc (.cells #[.int .i64 op, .int .i64 v, .int .u64 n, .int .i64 a, .int .i64 b, .int .i64 c] 38)).drew := ((Below.box _ _).alloc (by simp) _).drew
    have bNE : Below V.heap.size V ((V.alloc (.cells #[.int .i64 op, .int .i64 v, .int .u64 n, .int .i64 a, .int .i64 b, .int .i64 c] 38)).alloc (.cells #[] 38)).drew := ((Below.box _ _).alloc (by simp) _).drew
    have oE : World.ownsRow (V.alloc (.cells #[] 38)).drew V.heap.size 38 6 (.slice (some ⟨V.heap.size, 0, none⟩) 0 0) 0 (([] : List Tm.Nd).flatMap cells6) := own_new V
    have oEN : World.ownsRow ((V.alloc (.cells #[] 38)).alloc (.cells #[.int .i64 op, .int .i64 v, .int .u64 n, .int .i64 a, .int .i64 b, .int .i64 c] 38)).drew V.heap.size 38 6 (.slice (some ⟨V.heap.size, 0, none⟩) 0 0) 0 (([] : List Tm.Nd).flatMap cells6) := (own_new V).alloc (.cells #[.int .i64 op, .int .i64 v, .int .u64 n, .int .i64 a, .int .i64 b, .int .i64 c] 38)
    have oNE : World.ownsRow ((V.alloc (.cells #[.int .i64 op, .int .i64 v, .int .u64 n, .int .i64 a, .int .i64 b, .int .i64 c] 38)).alloc (.cells #[] 38)).drew V.heap.size 38 6 (.slice (some ⟨V.heap.size + 1, 0, none⟩) 0 0) 0 (([] : List Tm.Nd).flatMap cells6) := by
      have h := own_base (own_new (V.alloc (.cells #[.int .i64 op, .int .i64 v, .int .u64 n, .int .i64 a, .int .i64 b, .int .i64 c] 38))) (show V.heap.size ≤ (V.alloc (.cells #[.int .i64 op, .int .i64 v, .int .u64 n, .int .i64 a, .int .i64 b, .int .i64 c] 38)).heap.size by simp)
      rw [show (V.alloc (.cells #[.int .i64 op, .int .i64 v, .int .u64 n, .int .i64 a, .int .i64 b, .int .i64 c] 38)).heap.size = V.heap.size + 1 by simp] at h
      exact h
    have kEN : Blk ((V.alloc (.cells #[] 38)).alloc (.cells #[.int .i64 op, .int .i64 v, .int .u64 n, .int .i64 a, .int .i64 b, .int .i64 c] 38)).drew (V.heap.size + 1) 38 #[.int .i64 op, .int .i64 v, .int .u64 n, .int .i64 a, .int .i64 b, .int .i64 c] := by
      have h := Blk.new (V.alloc (.cells #[] 38)) #[.int .i64 op, .int .i64 v, .int .u64 n, .int .i64 a, .int .i64 b, .int .i64 c] 38
      rw [show (V.alloc (.cells #[] 38)).heap.size = V.heap.size + 1 by simp] at h
      exact h
    have kNE : Blk ((V.alloc (.cells #[.int .i64 op, .int .i64 v, .int .u64 n, .int .i64 a, .int .i64 b, .int .i64 c] 38)).alloc (.cells #[] 38)).drew V.heap.size 38 #[.int .i64 op, .int .i64 v, .int .u64 n, .int .i64 a, .int .i64 b, .int .i64 c] := ((Below.box (V.alloc (.cells #[.int .i64 op, .int .i64 v, .int .u64 n, .int .i64 a, .int .i64 b, .int .i64 c] 38)) (.cells #[] 38)).block V.heap.size (by simp)).trans (Blk.new V #[.int .i64 op, .int .i64 v, .int .u64 n, .int .i64 a, .int .i64 b, .int .i64 c] 38)
    have HbE := Lib.hid bE
    have HbN := Lib.hid bN
    have HbEN := Lib.hid bEN
    have HbNE := Lib.hid bNE
    have HoE := Lib.hid oE
    have HoEN := Lib.hid oEN
    have HoNE := Lib.hid oNE
    have HkEN := Lib.hid kEN
    have HkNE := Lib.hid kNE
    clear bE bN bEN bNE oE oEN oNE kEN kNE
    refine wp_region_held_drew (S := (fun W => W.cell? ⟨w.heap.size, 0, none⟩ = some (.int .i64 op) ∧ W.cell? ⟨w.heap.size, 1, none⟩ = some (.int .i64 v) ∧ W.cell? ⟨w.heap.size, 2, none⟩ = some (.int .u64 n) ∧ W.cell? ⟨w.heap.size, 3, none⟩ = some (.int .i64 a) ∧ W.cell? ⟨w.heap.size, 4, none⟩ = some (.int .i64 b) ∧ W.cell? ⟨w.heap.size, 5, none⟩ = some (.int .i64 c))) (by kernel_rfl) (HSB.out _ (Below.refl _ _).drew) (fun hHeld => ?_)
    refine wpAnyH_take (i := 1) (v := .slice (some ⟨bb, oo, none⟩) len cap) rfl (by kernel_rfl) (by kernel_rfl) (by kernel_rfl) (fun _ _ _ h => h) (Or.inl ⟨by rfl, fun w9 hSw => ?_⟩) hHeld ?_
    · (try dsimp only at hSw); go_simp
    try simp only [Act.put, List.setIfInBounds_toArray, List.set_cons_zero, List.set_cons_succ]
    refine wpAnyH_take (i := 3) (v := .agg #[.int .i64 op, .int .i64 v, .int .u64 n, .int .i64 a, .int .i64 b, .int .i64 c]) rfl (by kernel_rfl) (by kernel_rfl) (by kernel_rfl) (fun _ _ _ h => h) (Or.inl ⟨by rfl, fun w9 hSw => ?_⟩) hHeld ?_
    · (try dsimp only at hSw); go_simp
    try simp only [Act.put, List.setIfInBounds_toArray, List.set_cons_zero, List.set_cons_succ]
    refine wpAnyH_ready (rs := [0, 4]) (by kernel_rfl) (by simp) ?_
    refine (AllReadyH.cons rfl (fun K hK => ?_) (AllReadyH.cons rfl (fun K hK => ?_) AllReadyH.nil))
    go_simp
    refine hK.out _ _ (HSB.out _ HbE.out) (fun hHeld => ?_)
    clear hK K
    try simp only [Act.put, List.setIfInBounds_toArray, List.set_cons_zero, List.set_cons_succ]
    refine wpAnyH_ready (rs := [2, 4]) (by kernel_rfl) (by simp) ?_
    refine (AllReadyH.cons rfl (fun K hK => ?_) (AllReadyH.cons rfl (fun K hK => ?_) AllReadyH.nil))
    refine step_apG (w := (V.alloc (.cells #[] 38)).drew) rfl (.tmp 65) (.tmp 66) rfl V.heap.size (some ⟨V.heap.size, 0, none⟩) 0 0 [] rfl HoE.out (some ⟨bb, oo, none⟩) len cap X rfl (HSL.out.below HbE.out) (by have := HSZ.out; omega) (by simp; try omega) len (by omega) ?_
    intro A1 cap1 W1 hrow hgr hmv
    have hB1 : Below V.heap.size V W1 := HbE.out.trans ((Below.refl _ _).grown hgr (by simp) (fun k hk => by simp [oblk] at hk; omega))
    refine hK.out _ _ (HSB.out _ hB1) (fun hHeld => ?_)
    clear hK K
    try simp only [Act.put, List.setIfInBounds_toArray, List.set_cons_zero, List.set_cons_succ]
    refine wpAnyH_ready (rs := [4]) (by kernel_rfl) (by simp) ?_
    refine (AllReadyH.cons rfl (fun K hK => ?_) AllReadyH.nil)
    go_simp
    refine hK.out _ _ (HSB.out _ (hB1.alloc hB1.size _)) (fun hHeld => ?_)
    clear hK K
    try simp only [Act.put, List.setIfInBounds_toArray, List.set_cons_zero, List.set_cons_succ]
    have hT := Two.a (nd := (⟨op, v, n, a, b, c⟩ : Tm.Nd)) hrow hB1
    simp only [List.nil_append] at hT
    clear hrow hgr hmv hB1
    rotate_left
    go_simp
    refine hK.out _ _ (HSB.out _ HbEN.out) (fun hHeld => ?_)
    clear hK K
    try simp only [Act.put, List.setIfInBounds_toArray, List.set_cons_zero, List.set_cons_succ]
    refine wpAnyH_ready (rs := [2]) (by kernel_rfl) (by simp) ?_
    refine (AllReadyH.cons rfl (fun K hK => ?_) AllReadyH.nil)
    refine step_apG (w := ((V.alloc (.cells #[] 38)).alloc (.cells #[.int .i64 op, .int .i64 v, .int .u64 n, .int .i64 a, .int .i64 b, .int .i64 c] 38)).drew) rfl (.tmp 65) (.tmp 66) rfl V.heap.size (some ⟨V.heap.size, 0, none⟩) 0 0 [] rfl HoEN.out (some ⟨bb, oo, none⟩) len cap X rfl (HSL.out.below HbEN.out) (by have := HSZ.out; omega) (by simp; try omega) len (by omega) ?_
    intro A1 cap1 W1 hrow hgr hmv
    have hT := Two.b (nd := (⟨op, v, n, a, b, c⟩ : Tm.Nd)) hrow hgr HbEN.out HkEN.out (by simp [oblk]) (fun k hk => by simp [oblk] at hk; omega)
    simp only [List.nil_append] at hT
    refine hK.out _ _ (HSB.out _ hT.bel) (fun hHeld => ?_)
    clear hK K
    try simp only [Act.put, List.setIfInBounds_toArray, List.set_cons_zero, List.set_cons_succ]
    clear hrow hgr hmv
    rotate_left
    go_simp
    refine hK.out _ _ (HSB.out _ HbN.out) (fun hHeld => ?_)
    clear hK K
    try simp only [Act.put, List.setIfInBounds_toArray, List.set_cons_zero, List.set_cons_succ]
    refine wpAnyH_ready (rs := [0]) (by kernel_rfl) (by simp) ?_
    refine (AllReadyH.cons rfl (fun K hK => ?_) AllReadyH.nil)
    go_simp
    refine hK.out _ _ (HSB.out _ HbNE.out) (fun hHeld => ?_)
    clear hK K
    try simp only [Act.put, List.setIfInBounds_toArray, List.set_cons_zero, List.set_cons_succ]
    refine wpAnyH_ready (rs := [2]) (by kernel_rfl) (by simp) ?_
    refine (AllReadyH.cons rfl (fun K hK => ?_) AllReadyH.nil)
    refine step_apG (w := ((V.alloc (.cells #[.int .i64 op, .int .i64 v, .int .u64 n, .int .i64 a, .int .i64 b, .int .i64 c] 38)).alloc (.cells #[] 38)).drew) rfl (.tmp 65) (.tmp 66) rfl V.heap.size (some ⟨V.heap.size + 1, 0, none⟩) 0 0 [] rfl HoNE.out (some ⟨bb, oo, none⟩) len cap X rfl (HSL.out.below HbNE.out) (by have := HSZ.out; omega) (by simp; try omega) len (by omega) ?_
    intro A1 cap1 W1 hrow hgr hmv
    have hT := Two.b (nd := (⟨op, v, n, a, b, c⟩ : Tm.Nd)) hrow hgr HbNE.out HkNE.out (by simp [oblk]) (fun k hk => by simp [oblk] at hk; omega)
    simp only [List.nil_append] at hT
    refine hK.out _ _ (HSB.out _ hT.bel) (fun hHeld => ?_)
    clear hK K
    try simp only [Act.put, List.setIfInBounds_toArray, List.set_cons_zero, List.set_cons_succ]
    clear hrow hgr hmv
    rotate_left
    all_goals
      refine wpAnyH_ready (rs := [5]) (by kernel_rfl) (by simp) ?_
      refine (AllReadyH.cons rfl (fun K hK => ?_) AllReadyH.nil)
      refine step_apG rfl (.tmp 67) (.tmp 69) rfl V.heap.size A1 len cap1 X rfl hT.row (some ⟨_, 0, none⟩) 1 1 [(⟨op, v, n, a, b, c⟩ : Tm.Nd)] rfl (hT.one HWN.out) (by have := HSZ.out; omega) hT.bel.size (len + 1) rfl ?_
      intro A5 cap5 W5 hrow5 hgr5 hmv5
      have hb5 : Below V.heap.size V W5 := hT.bel.trans ((Below.refl _ _).grown hgr5 hT.bel.size (fun k hk => own_ge hT.row k (by rw [own_is]; exact hk)))
      refine hK.out _ _ (HSB.out _ hb5) (fun hHeld => ?_)
      clear hK K
      try simp only [Act.put, List.setIfInBounds_toArray, List.set_cons_zero, List.set_cons_succ]
      clear hT hgr5 hmv5
      refine wpAnyH_ready (rs := [6]) (by kernel_rfl) (by simp) ?_
      refine (AllReadyH.cons rfl (fun K hK => ?_) AllReadyH.nil)
      have hsl : NdSl W5 A5 (len + 1) cap5 (X ++ [(⟨op, v, n, a, b, c⟩ : Tm.Nd)]) := NdSl.of_own hrow5 (fun x hx => by
        rcases List.mem_append.1 hx with hx | hx
        · exact HWX.out x hx
        · rw [List.mem_singleton.1 hx]; exact HWN.out)
      go_simp
      go_at_call 10
      (with_reducible refine (check_any A5 (len + 1) cap5 (X ++ [(⟨op, v, n, a, b, c⟩ : Tm.Nd)]) W5 hsl.nd hsl.hlen hsl.u HC2.out).mono ?_)
      rintro e W6 ⟨rfl, hb6⟩
      rw [HG.out]
      go_wp2_with fail
      have hb6' := hb5.trans (hb6.mono hb5.size)
      have HB6 := Lib.hid (HB.out.trans (hb6'.mono HB.out.size))
      refine hK.out _ _ (HSB.out _ hb6') (fun hHeld => ?_)
      clear hK K hb5 hb6 hb6' hrow5 hsl
      try simp only [Act.put, List.setIfInBounds_toArray, List.set_cons_zero, List.set_cons_succ]
      refine wpAnyH_take (i := 7) (v := .tuple #[.int .i64 Y1, .int .i64 Y2]) rfl (by kernel_rfl) (by kernel_rfl) (by kernel_rfl) (fun _ _ _ h => h) (Or.inl ⟨by rfl, fun w9 hSw => ?_⟩) hHeld ?_
      · (try dsimp only at hSw); go_simp
      try simp only [Act.put, List.setIfInBounds_toArray, List.set_cons_zero, List.set_cons_succ]
      refine wpAnyH_take (i := 8) (v := .int .i64 Y1) rfl (by kernel_rfl) (by kernel_rfl) (by kernel_rfl) (fun _ _ _ h => h) (Or.inl ⟨by rfl, fun w9 hSw => ?_⟩) hHeld ?_
      · (try dsimp only at hSw); go_simp
      try simp only [Act.put, List.setIfInBounds_toArray, List.set_cons_zero, List.set_cons_succ]
      refine wpAnyH_take (i := 9) (v := .int .i64 Y2) rfl (by kernel_rfl) (by kernel_rfl) (by kernel_rfl) (fun _ _ _ h => h) (Or.inl ⟨by rfl, fun w9 hSw => ?_⟩) hHeld ?_
      · (try dsimp only at hSw); go_simp
      try simp only [Act.put, List.setIfInBounds_toArray, List.set_cons_zero, List.set_cons_succ]
      refine wpAnyH_take (i := 10) (v := .int .i64 Y1) rfl (by kernel_rfl) (by kernel_rfl) (by kernel_rfl) (fun _ _ _ h => h) (Or.inl ⟨by rfl, fun w9 hSw => ?_⟩) hHeld ?_
      · (try dsimp only at hSw); go_simp
      try simp only [Act.put, List.setIfInBounds_toArray, List.set_cons_zero, List.set_cons_succ]
      refine wpAnyH_take (i := 11) (v := .int .i64 Y2) rfl (by kernel_rfl) (by kernel_rfl) (by kernel_rfl) (fun _ _ _ h => h) (Or.inl ⟨by rfl, fun w9 hSw => ?_⟩) hHeld ?_
      · (try dsimp only at hSw); go_simp
      try simp only [Act.put, List.setIfInBounds_toArray, List.set_cons_zero, List.set_cons_succ]
      refine wpAnyH_done (by kernel_rfl) ?_ _
      clear hHeld
      rw [HY1.out, HY2.out]
      go_wp2
      go_ret
      exact ⟨rfl, HB6.out⟩
theorem parts_walk (A : Option Addr) (len cap : Nat) (X : List Tm.Nd) (cut : Int) (nd : Tm.Nd) (w : World) (hx : NdSl w A len cap X) (hw : Tm.Wf nd) :
    Calls Try.prog 7 #[.slice A len cap, .int .i64 cut, ndv nd] w fun e w' => e = .returned (.bool true) ∧ Below w.heap.size w w' := by
  by_cases h : 300 < len ∨ cut < 1 ∨ (len : Int) < cut
  · exact parts_none A len cap cut nd w h
  · obtain ⟨k, rfl⟩ := Int.eq_ofNat_of_zero_le (show 0 ≤ cut by omega)
    exact parts_some A len cap X k nd w hx hw (by omega) (by omega) (by omega)
end Go.Proofs.Ytfehmbcgehflmaa
