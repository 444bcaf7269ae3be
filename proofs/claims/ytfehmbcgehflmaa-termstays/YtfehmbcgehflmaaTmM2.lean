/-
  The contract of the reference's Make.
-/
import Derived.Test.YtfehmbcgehflmaaTmF1
namespace Go.Proofs.Ytfehmbcgehflmaa
set_option linter.unusedSimpArgs false
set_option linter.unusedVariables false
open Go.RowKit Go.Maps

/-- The list is the same, or new. -/
def Mv2 (n : Nat) (A : Option Addr) (X : List Tm.Nd) (A' : Option Addr) (Y : List Tm.Nd) : Prop := (A' = A ∧ Y = X) ∨ ∃ k, n ≤ k ∧ oblk A' = some k
/-- The reference's Make: the list, the place, the error. -/
def RmP (A : Option Addr) (X : List Tm.Nd) (nd : Tm.Nd) (w : World) (e : Ending) (w' : World) : Prop :=
  ∃ A' cap', e = .returned (.tuple #[.slice A' (Tm.mk X nd).1.length cap', .int .i64 (Tm.mk X nd).2.1, .int .i64 (Tm.mk X nd).2.2]) ∧ NdSl w' A' (Tm.mk X nd).1.length cap' (Tm.mk X nd).1 ∧ Below w.heap.size w w' ∧ Mv2 w.heap.size A X A' (Tm.mk X nd).1
theorem RmP.mk' {A A' : Option Addr} {X Y : List Tm.Nd} {nd : Tm.Nd} {w w' : World} {e : Ending} {n cap' : Nat} {p r : Int} (he : e = .returned (.tuple #[.slice A' n cap', .int .i64 p, .int .i64 r])) (hm : Tm.mk X nd = (Y, p, r)) (hs : NdSl w' A' n cap' Y) (hb : Below w.heap.size w w') (hv : Mv2 w.heap.size A X A' Y) : RmP A X nd w e w' := by
  have hl := hs.hlen
  subst hl
  exact ⟨A', cap', by rw [hm]; exact he, by rw [hm]; exact hs, hb, by rw [hm]; exact hv⟩

set_option maxRecDepth 100000 in
set_option maxHeartbeats 8000000 in
theorem rmake_any (A : Option Addr) (len cap : Nat) (X : List Tm.Nd) (nd : Tm.Nd) (w : World) (hx : NdSl w A len cap X) (hw : Tm.Wf nd) (hok : Tm.Ok X X.length) (hl : len < 65536) :
    Calls Try.prog 16 #[.slice A len cap, ndv nd] w (RmP A X nd w) := by
  have HXL := Lib.hid hx.hlen
  have HWN := Lib.hid hw
  have HWX := Lib.hid hx.wf
  have HSZ := Lib.hid (show len + 1 ≤ 1000000 by omega)
  have HB0 := Lib.hid (Below.box w (.cells #[.int .i64 nd.op, .int .i64 nd.w, .int .u64 nd.n, .int .i64 nd.a, .int .i64 nd.b, .int .i64 nd.c] 38))
  have HX0 := Lib.hid (hx.below HB0.out)
  have HX := Lib.hid hx
  have HBX0 := Lib.hid (Bx.new w nd)
  have HSW := Lib.hid (show w.heap.size < (w.alloc (.cells #[.int .i64 nd.op, .int .i64 nd.w, .int .u64 nd.n, .int .i64 nd.a, .int .i64 nd.b, .int .i64 nd.c] 38)).heap.size by simp)
  have HF := Lib.hid (find_any A len cap X nd _ HX0.out)
  have HNN := Lib.hid (show ∀ j, j < len → 0 ≤ (X.getD j Tm.z).w by have := hok.nn; rw [hx.hlen] at this; exact this)
  have hl' : decide ((65536 : Int) ≤ (len : Int)) = false := decide_eq_false (by omega)
  clear hx hw hok hl
  by_cases hin : nd ∈ X
  · have HMK := Lib.hid (show Tm.mk X nd = (X, (X.idxOf nd : Int), 0) from if_pos hin)
    have HFI := Lib.hid (show Tm.find X nd = ((X.idxOf nd : Nat) : Int) from if_pos hin)
    clear hin
    generalize X.idxOf nd = I at HMK HFI
    obtain ⟨op, v, n, a, b, c⟩ := nd
    dsimp only [ndv] at *
    go_enter Try.func16, Try.ntmps16
    go_wp2_with fail
    refine HF.out.mono ?_
    rintro e V ⟨rfl, hb⟩
    rw [HFI.out]
    have HB := Lib.hid (HB0.out.trans (hb.mono HB0.out.size))
    clear hb HF
    go_wp2
    go_ret3
    exact RmP.mk' rfl HMK.out (HX.out.below HB.out) HB.out (.inl ⟨rfl, rfl⟩)
  · have HIN := Lib.hid hin
    have HFI := Lib.hid (show Tm.find X nd = -1 from if_neg hin)
    have HMK := Lib.hid (show Tm.mk X nd = if Tm.flt nd X.length X ≠ 0 then (X, 0, Tm.flt nd X.length X) else (X ++ [nd], (X.length : Int), 0) from if_neg hin)
    clear hin
    obtain ⟨op, v, n, a, b, c⟩ := nd
    dsimp only [ndv] at *
    go_enter Try.func16, Try.ntmps16
    go_wp2_with fail
    refine HF.out.mono ?_
    rintro e v1 ⟨rfl, hb⟩
    rw [HFI.out]
    have HX1 := Lib.hid (HX0.out.below hb)
    have HB1 := Lib.hid (HB0.out.trans (hb.mono HB0.out.size))
    have HBX1 := Lib.hid (HBX0.out.keep (hb.block _ HSW.out))
    have HSW1 := Lib.hid (Nat.lt_of_lt_of_le HSW.out hb.size)
    clear hb HF HX0 HB0 HBX0 HSW
    obtain ⟨b0, b1, b2, b3, b4, b5⟩ := HBX1.out
    dsimp only at b0 b1 b2 b3 b4 b5
    go_wp2_with fail
    refine (right_any _ _ _ _ _ _ A len cap X v1 HX1.out.nd HWN.out.u.1 HWN.out.u.2 HNN.out).mono ?_
    rintro e V ⟨rfl, hb⟩
    have HSL := Lib.hid (HX1.out.below hb)
    have HB := Lib.hid (HB1.out.trans (hb.mono HB1.out.size))
    have HBX := Lib.hid (HBX1.out.keep (hb.block _ HSW1.out))
    have HBL := Lib.hid (Nat.lt_of_lt_of_le HSW1.out hb.size)
    clear hb HX1 HB1 HBX1 HSW1 b0 b1 b2 b3 b4 b5
    by_cases hf : Tm.flt ⟨op, v, n, a, b, c⟩ len X = 0
    · have HFL := Lib.hid hf
      rw [hf]
      clear hf
      go_wp2_with fail
      clear hl'
      have HSB := Lib.hid (show ∀ W, Below V.heap.size V W → (fun W => W.cell? ⟨w.heap.size, 0, none⟩ = some (.int .i64 op) ∧ W.cell? ⟨w.heap.size, 1, none⟩ = some (.int .i64 v) ∧ W.cell? ⟨w.heap.size, 2, none⟩ = some (.int .u64 n) ∧ W.cell? ⟨w.heap.size, 3, none⟩ = some (.int .i64 a) ∧ W.cell? ⟨w.heap.size, 4, none⟩ = some (.int .i64 b) ∧ W.cell? ⟨w.heap.size, 5, none⟩ = some (.int .i64 c)) W from fun W hW => (HBX.out.keep (hW.block _ HBL.out)).six)
      have bE : Below V.heap.size V (V.alloc (.cells #[] 38)).drew := (Below.box _ _).drew
      have bN : Below V.heap.size V (V.alloc (.cells #[.int .i64 op, .int .i64 v, .int .u64 n, .int .i64 a, .int .i64 b, .int .i64 c] 38)).drew := (Below.box _ _).drew
      have bEN : Below V.heap.size V ((V.alloc (.cells #[] 38)).alloc (.cells #[.int .i64 op, .int .i64 v, .int .u64 n, .int .i64 a, .int .i64 b, .int .i64 c] 38)).drew := ((Below.box _ _).alloc (by simp) _).drew
      have bNE : Below V.heap.size V ((V.alloc (.cells #[.int .i64 op, .int .i64 v, .int .u64 n, .int .i64 a, .int .i64 b, .int .i64 c] 38)).alloc (.cells #[] 38)).drew := ((Below.box _ _).alloc (by simp) _).drew
      have oE : World.ownsRow (V.alloc (.cells #[] 38)).drew V.heap.size 38 6 (.slice (some ⟨V.heap.size, 0, none⟩) 0 0) 0 (([] : List Tm.Nd).flatMap cells6) := own_new V
      have oEN : World.ownsRow ((V.alloc (.cells #[] 38)).alloc (.cells #[.int .i64 op, .int .i64 v, .int .u64 n, .int .i64 a, .int .i64 b, .int .i64 c] 38)).drew V.heap.size 38 6 (.slice (some ⟨V.heap.size, 0, none⟩) 0 0) 0 (([] : List Tm.Nd).flatMap cells6) := (own_new V).alloc (.cells #[.int .i64 op, .int .i64 v, .int .u64 n, .int .i64 a, .int .i64 b, .int .i64 c] 38)
      have oNE : World.ownsRow ((V.alloc (.cells #[.int .i64 op, .int .i64 v, .int .u64 n, .int .i64 a, .int .i64 b, .int .i64 c] 38)).alloc (.cells #[] 38)).drew V.heap.size 38 6 (.slice (some ⟨V.heap.size + 1, 0, none⟩) 0 0) 0 (([] : List Tm.Nd).flatMap cells6) := by
        have h := own_base (own_new (V.alloc (.cells #[.int .i64 op, .int .i64 v, .int .u64 n, .int .i64 a, .int .i64 b, .int .i64 c] 38))) (show V.heap.size ≤ (V.alloc (.cells #[.int .i64 op, .int .i64 v, .int .u64 n, .int .i64 a, .int .i64 b, .int .i64 c] 38)).heap.size by simp)
        rw [show (V.alloc (.cells #[.int .i64 op, .int .i64 v, .int .u64 n, .int .i64 a, .int .i64 b, .int .i64 c] 38)).heap.size = V.heap.size + 1 by simp] at h
        exact h
      have kEN : Blk ((V.alloc (.cells #[] 38)).alloc (.cells #[.int .i64 op, .int .i64 v, .int .u64 n, .int .i64 a, .int .i64 b, .int .i64 c] 38)).drew (V.heap.size + 1) 38 #[.int .i64 op, .int .i64 v, .int .u64 n, .int .i64 a, .int .i64 b, .int .i64 c] := by
        have h := Blk.new (V.alloc (.cells #[] 38)) #[.int .i64 op, .int .i64 v, .int .u64 n, .int .i64 a, .int .i64 b, .int .i64 c] 38
        rw [show (V.alloc (.cells #[] 38)).heap.size = V.heap.size + 1 by simp] at h
        exact h
      have kNE : Blk ((V.alloc (.cells #[.int .i64 op, .int .i64 v, .int .u64 n, .int .i64 a, .int .i64 b, .int .i64 c] 38)).alloc (.cells #[] 38)).drew V.heap.size 38 #[.int .i64 op, .int .i64 v, .int .u64 n, .int .i64 a, .int .i64 b, .int .i64 c] := ((Below.box (V.alloc (.cells #[.int .i64 op, .int .i64 v, .int .u64 n, .int .i64 a, .int .i64 b, .int .i64 c] 38)) (.cells #[] 38)).block V.heap.size (by simp)).trans (Blk.new V #[.int .i64 op, .int .i64 v, .int .u64 n, .int .i64 a, .int .i64 b, .int .i64 c] 38)
      have HbE := Lib.hid bE
      have HbN := Lib.hid bN
      have HbEN := Lib.hid bEN
      have HbNE := Lib.hid bNE
      have HoE := Lib.hid oE
      have HoEN := Lib.hid oEN
      have HoNE := Lib.hid oNE
      have HkEN := Lib.hid kEN
      have HkNE := Lib.hid kNE
      clear bE bN bEN bNE oE oEN oNE kEN kNE
      refine wp_region_held_drew (S := (fun W => W.cell? ⟨w.heap.size, 0, none⟩ = some (.int .i64 op) ∧ W.cell? ⟨w.heap.size, 1, none⟩ = some (.int .i64 v) ∧ W.cell? ⟨w.heap.size, 2, none⟩ = some (.int .u64 n) ∧ W.cell? ⟨w.heap.size, 3, none⟩ = some (.int .i64 a) ∧ W.cell? ⟨w.heap.size, 4, none⟩ = some (.int .i64 b) ∧ W.cell? ⟨w.heap.size, 5, none⟩ = some (.int .i64 c))) (by kernel_rfl) (HSB.out _ (Below.refl _ _).drew) (fun hHeld => ?_)
      refine wpAnyH_take (i := 1) (v := .slice A len cap) rfl (by kernel_rfl) (by kernel_rfl) (by kernel_rfl) (fun _ _ _ h => h) (Or.inl ⟨by rfl, fun w9 hSw => ?_⟩) hHeld ?_
      · (try dsimp only at hSw); go_simp
      try simp only [Act.put, List.setIfInBounds_toArray, List.set_cons_zero, List.set_cons_succ]
      refine wpAnyH_take (i := 3) (v := .agg #[.int .i64 op, .int .i64 v, .int .u64 n, .int .i64 a, .int .i64 b, .int .i64 c]) rfl (by kernel_rfl) (by kernel_rfl) (by kernel_rfl) (fun _ _ _ h => h) (Or.inl ⟨by rfl, fun w9 hSw => ?_⟩) hHeld ?_
      · (try dsimp only at hSw); go_simp
      try simp only [Act.put, List.setIfInBounds_toArray, List.set_cons_zero, List.set_cons_succ]
      refine wpAnyH_take (i := 6) (v := .slice A len cap) rfl (by kernel_rfl) (by kernel_rfl) (by kernel_rfl) (fun _ _ _ h => h) (Or.inl ⟨by rfl, fun w9 hSw => ?_⟩) hHeld ?_
      · (try dsimp only at hSw); go_simp
      try simp only [Act.put, List.setIfInBounds_toArray, List.set_cons_zero, List.set_cons_succ]
      refine wpAnyH_take (i := 7) (v := .int .i64 (len : Int)) rfl (by kernel_rfl) (by kernel_rfl) (by kernel_rfl) (fun _ _ _ h => h) (Or.inl ⟨by rfl, fun w9 hSw => ?_⟩) hHeld ?_
      · (try dsimp only at hSw); go_simp
      try simp only [Act.put, List.setIfInBounds_toArray, List.set_cons_zero, List.set_cons_succ]
      refine wpAnyH_ready (rs := [0, 4]) (by kernel_rfl) (by simp) ?_
      refine (AllReadyH.cons rfl (fun K hK => ?_) (AllReadyH.cons rfl (fun K hK => ?_) AllReadyH.nil))
      go_simp
      refine hK.out _ _ (HSB.out _ HbE.out) (fun hHeld => ?_)
      clear hK K
      try simp only [Act.put, List.setIfInBounds_toArray, List.set_cons_zero, List.set_cons_succ]
      refine wpAnyH_ready (rs := [2, 4]) (by kernel_rfl) (by simp) ?_
      refine (AllReadyH.cons rfl (fun K hK => ?_) (AllReadyH.cons rfl (fun K hK => ?_) AllReadyH.nil))
      refine step_apG (w := (V.alloc (.cells #[] 38)).drew) rfl (.tmp 27) (.tmp 28) rfl V.heap.size (some ⟨V.heap.size, 0, none⟩) 0 0 [] rfl HoE.out A len cap X rfl (HSL.out.below HbE.out) (by have := HSZ.out; omega) (by simp; try omega) len (by omega) ?_
      intro A1 cap1 W1 hrow hgr hmv
      have hB1 : Below V.heap.size V W1 := HbE.out.trans ((Below.refl _ _).grown hgr (by simp) (fun k hk => by simp [oblk] at hk; omega))
      refine hK.out _ _ (HSB.out _ hB1) (fun hHeld => ?_)
      clear hK K
      try simp only [Act.put, List.setIfInBounds_toArray, List.set_cons_zero, List.set_cons_succ]
      refine wpAnyH_ready (rs := [4]) (by kernel_rfl) (by simp) ?_
      refine (AllReadyH.cons rfl (fun K hK => ?_) AllReadyH.nil)
      go_simp
      refine hK.out _ _ (HSB.out _ (hB1.alloc hB1.size _)) (fun hHeld => ?_)
      clear hK K
      try simp only [Act.put, List.setIfInBounds_toArray, List.set_cons_zero, List.set_cons_succ]
      have hT := Two.a (nd := (⟨op, v, n, a, b, c⟩ : Tm.Nd)) hrow hB1
      simp only [List.nil_append] at hT
      clear hrow hgr hmv hB1
      rotate_left
      go_simp
      refine hK.out _ _ (HSB.out _ HbEN.out) (fun hHeld => ?_)
      clear hK K
      try simp only [Act.put, List.setIfInBounds_toArray, List.set_cons_zero, List.set_cons_succ]
      refine wpAnyH_ready (rs := [2]) (by kernel_rfl) (by simp) ?_
      refine (AllReadyH.cons rfl (fun K hK => ?_) AllReadyH.nil)
      refine step_apG (w := ((V.alloc (.cells #[] 38)).alloc (.cells #[.int .i64 op, .int .i64 v, .int .u64 n, .int .i64 a, .int .i64 b, .int .i64 c] 38)).drew) rfl (.tmp 27) (.tmp 28) rfl V.heap.size (some ⟨V.heap.size, 0, none⟩) 0 0 [] rfl HoEN.out A len cap X rfl (HSL.out.below HbEN.out) (by have := HSZ.out; omega) (by simp; try omega) len (by omega) ?_
      intro A1 cap1 W1 hrow hgr hmv
      have hT := Two.b (nd := (⟨op, v, n, a, b, c⟩ : Tm.Nd)) hrow hgr HbEN.out HkEN.out (by simp [oblk]) (fun k hk => by simp [oblk] at hk; omega)
      simp only [List.nil_append] at hT
      refine hK.out _ _ (HSB.out _ hT.bel) (fun hHeld => ?_)
      clear hK K
      try simp only [Act.put, List.setIfInBounds_toArray, List.set_cons_zero, List.set_cons_succ]
      clear hrow hgr hmv
      rotate_left
      go_simp
      refine hK.out _ _ (HSB.out _ HbN.out) (fun hHeld => ?_)
      clear hK K
      try simp only [Act.put, List.setIfInBounds_toArray, List.set_cons_zero, List.set_cons_succ]
      refine wpAnyH_ready (rs := [0]) (by kernel_rfl) (by simp) ?_
      refine (AllReadyH.cons rfl (fun K hK => ?_) AllReadyH.nil)
      go_simp
      refine hK.out _ _ (HSB.out _ HbNE.out) (fun hHeld => ?_)
      clear hK K
      try simp only [Act.put, List.setIfInBounds_toArray, List.set_cons_zero, List.set_cons_succ]
      refine wpAnyH_ready (rs := [2]) (by kernel_rfl) (by simp) ?_
      refine (AllReadyH.cons rfl (fun K hK => ?_) AllReadyH.nil)
      refine step_apG (w := ((V.alloc (.cells #[.int .i64 op, .int .i64 v, .int .u64 n, .int .i64 a, .int .i64 b, .int .i64 c] 38)).alloc (.cells #[] 38)).drew) rfl (.tmp 27) (.tmp 28) rfl V.heap.size (some ⟨V.heap.size + 1, 0, none⟩) 0 0 [] rfl HoNE.out A len cap X rfl (HSL.out.below HbNE.out) (by have := HSZ.out; omega) (by simp; try omega) len (by omega) ?_
      intro A1 cap1 W1 hrow hgr hmv
      have hT := Two.b (nd := (⟨op, v, n, a, b, c⟩ : Tm.Nd)) hrow hgr HbNE.out HkNE.out (by simp [oblk]) (fun k hk => by simp [oblk] at hk; omega)
      simp only [List.nil_append] at hT
      refine hK.out _ _ (HSB.out _ hT.bel) (fun hHeld => ?_)
      clear hK K
      try simp only [Act.put, List.setIfInBounds_toArray, List.set_cons_zero, List.set_cons_succ]
      clear hrow hgr hmv
      rotate_left
      all_goals
        refine wpAnyH_ready (rs := [5]) (by kernel_rfl) (by simp) ?_
        refine (AllReadyH.cons rfl (fun K hK => ?_) AllReadyH.nil)
        refine step_apG rfl (.tmp 29) (.tmp 31) rfl V.heap.size A1 len cap1 X rfl hT.row (some ⟨_, 0, none⟩) 1 1 [(⟨op, v, n, a, b, c⟩ : Tm.Nd)] rfl (hT.one HWN.out) (by have := HSZ.out; omega) hT.bel.size (len + 1) rfl ?_
        intro A5 cap5 W5 hrow5 hgr5 hmv5
        have hb5 : Below V.heap.size V W5 := hT.bel.trans ((Below.refl _ _).grown hgr5 hT.bel.size (fun k hk => own_ge hT.row k (by rw [own_is]; exact hk)))
        refine hK.out _ _ (HSB.out _ hb5) (fun hHeld => ?_)
        clear hK K
        try simp only [Act.put, List.setIfInBounds_toArray, List.set_cons_zero, List.set_cons_succ]
        clear hT hgr5 hmv5
        refine wpAnyH_take (i := 8) (v := .slice A5 (len + 1) cap5) rfl (by kernel_rfl) (by kernel_rfl) (by kernel_rfl) (fun _ _ _ h => h) (Or.inl ⟨by rfl, fun w9 hSw => ?_⟩) hHeld ?_
        · (try dsimp only at hSw); go_simp
        try simp only [Act.put, List.setIfInBounds_toArray, List.set_cons_zero, List.set_cons_succ]
        refine wpAnyH_take (i := 9) (v := .int .i64 (len : Int)) rfl (by kernel_rfl) (by kernel_rfl) (by kernel_rfl) (fun _ _ _ h => h) (Or.inl ⟨by rfl, fun w9 hSw => ?_⟩) hHeld ?_
        · (try dsimp only at hSw); go_simp
        try simp only [Act.put, List.setIfInBounds_toArray, List.set_cons_zero, List.set_cons_succ]
        refine wpAnyH_take (i := 10) (v := .int .i64 0) rfl (by kernel_rfl) (by kernel_rfl) (by kernel_rfl) (fun _ _ _ h => h) (Or.inl ⟨by rfl, fun w9 hSw => ?_⟩) hHeld ?_
        · (try dsimp only at hSw); go_simp
        try simp only [Act.put, List.setIfInBounds_toArray, List.set_cons_zero, List.set_cons_succ]
        refine wpAnyH_done (by kernel_rfl) ?_ _
        clear hHeld
        have HR5 := Lib.hid hrow5
        have HB5 := Lib.hid (HB.out.trans (hb5.mono HB.out.size))
        have HB6 := Lib.hid hb5
        clear hrow5 hb5
        go_wp2
        go_ret3
        refine RmP.mk' rfl (HMK.out.trans ?_) (NdSl.of_own HR5.out (fun x hx => ?_)) HB5.out ?_
        · rw [if_neg (by rw [HXL.out, HFL.out]; simp), HXL.out]
        · rcases List.mem_append.1 hx with hx | hx
          · exact HWX.out x hx
          · rw [List.mem_singleton.1 hx]; exact HWN.out
        · rcases h : oblk A5 with _ | k
          · exfalso
            rcases HR5.out.2 with ⟨e, h0⟩ | ⟨g5, _, _, e, _⟩
            · omega
            · injection e with e1 _ _
              subst e1
              simp [oblk] at h
          · exact .inr ⟨k, Nat.le_trans HB.out.size (own_ge HR5.out k (by rw [own_is]; exact h)), h⟩
    · have hf' : (Tm.flt ⟨op, v, n, a, b, c⟩ len X != 0) = true := by simpa using hf
      have HFL := Lib.hid (HMK.out.trans (if_pos (by rw [HXL.out]; exact hf)))
      rw [HXL.out] at HFL
      clear hf HMK
      generalize Tm.flt ⟨op, v, n, a, b, c⟩ len X = E at hf' HFL ⊢
      go_wp2
      go_ret3
      exact RmP.mk' rfl HFL.out HSL.out HB.out (.inl ⟨rfl, rfl⟩)
end Go.Proofs.Ytfehmbcgehflmaa
