/-
  The contract of the reference's Make.
  The contract of the reference's Term; of At.
  The walk of the law on nodes that are made.
-/
import Derived.Test.YtdbcpnpcnkccaaaMK
set_option linter.unusedSimpArgs false
set_option linter.unusedVariables false
namespace Go.Proofs.Ytdbcpnpcnkccaaa
set_option maxRecDepth 100000
open Go.RowKit Go.Maps

/-- The list is the same, or new. -/
def Mv2 (n : Nat) (A : Option Addr) (X : List Tm.Nd) (A' : Option Addr) (Y : List Tm.Nd) : Prop := (A' = A ∧ Y = X) ∨ ∃ k, n ≤ k ∧ oblk A' = some k
/-- The reference's Make: the list, the place, the error. -/
def RmP (A : Option Addr) (X : List Tm.Nd) (nd : Tm.Nd) (w : World) (e : Ending) (w' : World) : Prop :=
  ∃ A' cap', e = .returned (.tuple #[.slice A' (Tm.mk X nd).1.length cap', .int .i64 (Tm.mk X nd).2.1, .int .i64 (Tm.mk X nd).2.2]) ∧ NdSl w' A' (Tm.mk X nd).1.length cap' (Tm.mk X nd).1 ∧ Below w.heap.size w w' ∧ Mv2 w.heap.size A X A' (Tm.mk X nd).1
theorem RmP.mk' {A A' : Option Addr} {X Y : List Tm.Nd} {nd : Tm.Nd} {w w' : World} {e : Ending} {n cap' : Nat} {p r : Int} (he : e = .returned (.tuple #[.slice A' n cap', .int .i64 p, .int .i64 r])) (hm : Tm.mk X nd = (Y, p, r)) (hs : NdSl w' A' n cap' Y) (hb : Below w.heap.size w w') (hv : Mv2 w.heap.size A X A' Y) : RmP A X nd w e w' := by
  have hl := hs.hlen
  subst hl
  exact ⟨A', cap', by rw [hm]; exact he, by rw [hm]; exact hs, hb, by rw [hm]; exact hv⟩

set_option maxRecDepth 100000 in
set_option maxHeartbeats 8000000 in
theorem rmake_any (A : Option Addr) (len cap : Nat) (X : List Tm.Nd) (nd : Tm.Nd) (w : World) (hx : NdSl w A len cap X) (hw : Tm.Wf nd) (hok : Tm.Ok X X.length) (hl : len < 65536) :
    Calls Try.prog 61 #[.slice A len cap, ndv nd] w (RmP A X nd w) := by
  have HXL := Lib.hid hx.hlen
  have HWN := Lib.hid hw
  have HWX := Lib.hid hx.wf
  have HSZ := Lib.hid (show len + 1 ≤ 1000000 by omega)
  have HB0 := Lib.hid (Below.box w (.cells #[.int .i64 nd.op, .int .i64 nd.w, .int .u64 nd.n, .int .i64 nd.a, .int .i64 nd.b, .int .i64 nd.c] 36))
  have HX0 := Lib.hid (hx.below HB0.out)
  have HX := Lib.hid hx
  have HBX0 := Lib.hid (Bx.new w nd)
  have HSW := Lib.hid (show w.heap.size < (w.alloc (.cells #[.int .i64 nd.op, .int .i64 nd.w, .int .u64 nd.n, .int .i64 nd.a, .int .i64 nd.b, .int .i64 nd.c] 36)).heap.size by simp)
  have HF := Lib.hid (find_any A len cap X nd _ HX0.out)
  have HNN := Lib.hid (show ∀ j, j < len → 0 ≤ (X.getD j Tm.z).w by have := hok.nn; rw [hx.hlen] at this; exact this)
  have hl' : decide ((65536 : Int) ≤ (len : Int)) = false := decide_eq_false (by omega)
  clear hx hw hok hl
  by_cases hin : nd ∈ X
  · have HMK := Lib.hid (show Tm.mk X nd = (X, (X.idxOf nd : Int), 0) from if_pos hin)
    have HFI := Lib.hid (show Tm.find X nd = ((X.idxOf nd : Nat) : Int) from if_pos hin)
    clear hin
    generalize X.idxOf nd = I at HMK HFI
    obtain ⟨op, v, n, a, b, c⟩ := nd
    dsimp only [ndv] at *
    go_enter Try.func61, Try.ntmps61
    go_wp2_with fail
    refine HF.out.mono ?_
    rintro e V ⟨rfl, hb⟩
    rw [HFI.out]
    have HB := Lib.hid (HB0.out.trans (hb.mono HB0.out.size))
    clear hb HF
    go_wp2
    go_ret3
    exact RmP.mk' rfl HMK.out (HX.out.below HB.out) HB.out (.inl ⟨rfl, rfl⟩)
  · have HIN := Lib.hid hin
    have HFI := Lib.hid (show Tm.find X nd = -1 from if_neg hin)
    have HMK := Lib.hid (show Tm.mk X nd = if Tm.flt nd X.length X ≠ 0 then (X, 0, Tm.flt nd X.length X) else (X ++ [nd], (X.length : Int), 0) from if_neg hin)
    clear hin
    obtain ⟨op, v, n, a, b, c⟩ := nd
    dsimp only [ndv] at *
    go_enter Try.func61, Try.ntmps61
    go_wp2_with fail
    refine HF.out.mono ?_
    rintro e v1 ⟨rfl, hb⟩
    rw [HFI.out]
    have HX1 := Lib.hid (HX0.out.below hb)
    have HB1 := Lib.hid (HB0.out.trans (hb.mono HB0.out.size))
    have HBX1 := Lib.hid (HBX0.out.keep (hb.block _ HSW.out))
    have HSW1 := Lib.hid (Nat.lt_of_lt_of_le HSW.out hb.size)
    clear hb HF HX0 HB0 HBX0 HSW
    obtain ⟨b0, b1, b2, b3, b4, b5⟩ := HBX1.out
    dsimp only at b0 b1 b2 b3 b4 b5
    go_wp2_with fail
    refine (right_any _ _ _ _ _ _ A len cap X v1 HX1.out.nd HWN.out.u.1 HWN.out.u.2 HNN.out).mono ?_
    rintro e V ⟨rfl, hb⟩
    have HSL := Lib.hid (HX1.out.below hb)
    have HB := Lib.hid (HB1.out.trans (hb.mono HB1.out.size))
    have HBX := Lib.hid (HBX1.out.keep (hb.block _ HSW1.out))
    have HBL := Lib.hid (Nat.lt_of_lt_of_le HSW1.out hb.size)
    clear hb HX1 HB1 HBX1 HSW1 b0 b1 b2 b3 b4 b5
    by_cases hf : Tm.flt ⟨op, v, n, a, b, c⟩ len X = 0
    · have HFL := Lib.hid hf
      rw [hf]
      clear hf
      go_wp2_with fail
      clear hl'
      have HSB := Lib.hid (show ∀ W, Below V.heap.size V W → (fun W => W.cell? ⟨w.heap.size, 0, none⟩ = some (.int .i64 op) ∧ W.cell? ⟨w.heap.size, 1, none⟩ = some (.int .i64 v) ∧ W.cell? ⟨w.heap.size, 2, none⟩ = some (.int .u64 n) ∧ W.cell? ⟨w.heap.size, 3, none⟩ = some (.int .i64 a) ∧ W.cell? ⟨w.heap.size, 4, none⟩ = some (.int .i64 b) ∧ W.cell? ⟨w.heap.size, 5, none⟩ = some (.int .i64 c)) W from fun W hW => (HBX.out.keep (hW.block _ HBL.out)).six)
      have bE : Below V.heap.size V (V.alloc (.cells #[] 36)).drew := (Below.box _ _).drew
      have bN : Below V.heap.size V (V.alloc (.cells #[.int .i64 op, .int .i64 v, .int .u64 n, .int .i64 a, .int .i64 b, .int .i64 c] 36)).drew := (Below.box _ _).drew
      have bEN : Below V.heap.size V ((V.alloc (.cells #[] 36)).alloc (.cells #[.int .i64 op, .int .i64 v, .int .u64 n, .int .i64 a, .int .i64 b, .int .i64 c] 36)).drew := ((Below.box _ _).alloc (by simp) _).drew
      have bNE : Below V.heap.size V ((V.alloc (.cells #[.int .i64 op, .int .i64 v, .int .u64 n, .int .i64 a, .int .i64 b, .int .i64 c] 36)).alloc (.cells #[] 36)).drew := ((Below.box _ _).alloc (by simp) _).drew
      have oE : World.ownsRow (V.alloc (.cells #[] 36)).drew V.heap.size 36 6 (.slice (some ⟨V.heap.size, 0, none⟩) 0 0) 0 (([] : List Tm.Nd).flatMap cells6) := own_new V
      have oEN : World.ownsRow ((V.alloc (.cells #[] 36)).alloc (.cells #[.int .i64 op, .int .i64 v, .int .u64 n, .int .i64 a, .int .i64 b, .int .i64 c] 36)).drew V.heap.size 36 6 (.slice (some ⟨V.heap.size, 0, none⟩) 0 0) 0 (([] : List Tm.Nd).flatMap cells6) := (own_new V).alloc (.cells #[.int .i64 op, .int .i64 v, .int .u64 n, .int .i64 a, .int .i64 b, .int .i64 c] 36)
      have oNE : World.ownsRow ((V.alloc (.cells #[.int .i64 op, .int .i64 v, .int .u64 n, .int .i64 a, .int .i64 b, .int .i64 c] 36)).alloc (.cells #[] 36)).drew V.heap.size 36 6 (.slice (some ⟨V.heap.size + 1, 0, none⟩) 0 0) 0 (([] : List Tm.Nd).flatMap cells6) := by
        have h := own_base (own_new (V.alloc (.cells #[.int .i64 op, .int .i64 v, .int .u64 n, .int .i64 a, .int .i64 b, .int .i64 c] 36))) (show V.heap.size ≤ (V.alloc (.cells #[.int .i64 op, .int .i64 v, .int .u64 n, .int .i64 a, .int .i64 b, .int .i64 c] 36)).heap.size by simp)
        rw [show (V.alloc (.cells #[.int .i64 op, .int .i64 v, .int .u64 n, .int .i64 a, .int .i64 b, .int .i64 c] 36)).heap.size = V.heap.size + 1 by simp] at h
        exact h
      have kEN : Blk ((V.alloc (.cells #[] 36)).alloc (.cells #[.int .i64 op, .int .i64 v, .int .u64 n, .int .i64 a, .int .i64 b, .int .i64 c] 36)).drew (V.heap.size + 1) 36 #[.int .i64 op, .int .i64 v, .int .u64 n, .int .i64 a, .int .i64 b, .int .i64 c] := by
        have h := Blk.new (V.alloc (.cells #[] 36)) #[.int .i64 op, .int .i64 v, .int .u64 n, .int .i64 a, .int .i64 b, .int .i64 c] 36
        rw [show (V.alloc (.cells #[] 36)).heap.size = V.heap.size + 1 by simp] at h
        exact h
      have kNE : Blk ((V.alloc (.cells #[.int .i64 op, .int .i64 v, .int .u64 n, .int .i64 a, .int .i64 b, .int .i64 c] 36)).alloc (.cells #[] 36)).drew V.heap.size 36 #[.int .i64 op, .int .i64 v, .int .u64 n, .int .i64 a, .int .i64 b, .int .i64 c] := ((Below.box (V.alloc (.cells #[.int .i64 op, .int .i64 v, .int .u64 n, .int .i64 a, .int .i64 b, .int .i64 c] 36)) (.cells #[] 36)).block V.heap.size (by simp)).trans (Blk.new V #[.int .i64 op, .int .i64 v, .int .u64 n, .int .i64 a, .int .i64 b, .int .i64 c] 36)
      have HbE := Lib.hid bE
      have HbN := Lib.hid bN
      have HbEN := Lib.hid bEN
      have HbNE := Lib.hid bNE
      have HoE := Lib.hid oE
      have HoEN := Lib.hid oEN
      have HoNE := Lib.hid oNE
      have HkEN := Lib.hid kEN
      have HkNE := Lib.hid kNE
      clear bE bN bEN bNE oE oEN oNE kEN kNE
      refine wp_region_held_drew (S := (fun W => W.cell? ⟨w.heap.size, 0, none⟩ = some (.int .i64 op) ∧ W.cell? ⟨w.heap.size, 1, none⟩ = some (.int .i64 v) ∧ W.cell? ⟨w.heap.size, 2, none⟩ = some (.int .u64 n) ∧ W.cell? ⟨w.heap.size, 3, none⟩ = some (.int .i64 a) ∧ W.cell? ⟨w.heap.size, 4, none⟩ = some (.int .i64 b) ∧ W.cell? ⟨w.heap.size, 5, none⟩ = some (.int .i64 c))) (by kernel_rfl) (HSB.out _ (Below.refl _ _).drew) (fun hHeld => ?_)
      refine wpAnyH_take (i := 1) (v := .slice A len cap) rfl (by kernel_rfl) (by kernel_rfl) (by kernel_rfl) (fun _ _ _ h => h) (Or.inl ⟨by rfl, fun w9 hSw => ?_⟩) hHeld ?_
      · (try dsimp only at hSw); go_simp
      try simp only [Act.put, List.setIfInBounds_toArray, List.set_cons_zero, List.set_cons_succ]
      refine wpAnyH_take (i := 3) (v := .agg #[.int .i64 op, .int .i64 v, .int .u64 n, .int .i64 a, .int .i64 b, .int .i64 c]) rfl (by kernel_rfl) (by kernel_rfl) (by kernel_rfl) (fun _ _ _ h => h) (Or.inl ⟨by rfl, fun w9 hSw => ?_⟩) hHeld ?_
      · (try dsimp only at hSw); go_simp
      try simp only [Act.put, List.setIfInBounds_toArray, List.set_cons_zero, List.set_cons_succ]
      refine wpAnyH_take (i := 6) (v := .slice A len cap) rfl (by kernel_rfl) (by kernel_rfl) (by kernel_rfl) (fun _ _ _ h => h) (Or.inl ⟨by rfl, fun w9 hSw => ?_⟩) hHeld ?_
      · (try dsimp only at hSw); go_simp
      try simp only [Act.put, List.setIfInBounds_toArray, List.set_cons_zero, List.set_cons_succ]
      refine wpAnyH_take (i := 7) (v := .int .i64 (len : Int)) rfl (by kernel_rfl) (by kernel_rfl) (by kernel_rfl) (fun _ _ _ h => h) (Or.inl ⟨by rfl, fun w9 hSw => ?_⟩) hHeld ?_
      · (try dsimp only at hSw); go_simp
      try simp only [Act.put, List.setIfInBounds_toArray, List.set_cons_zero, List.set_cons_succ]
      refine wpAnyH_ready (rs := [0, 4]) (by kernel_rfl) (by simp) ?_
      refine (AllReadyH.cons rfl (fun K hK => ?_) (AllReadyH.cons rfl (fun K hK => ?_) AllReadyH.nil))
      go_simp
      refine hK.out _ _ (HSB.out _ HbE.out) (fun hHeld => ?_)
      clear hK K
      try simp only [Act.put, List.setIfInBounds_toArray, List.set_cons_zero, List.set_cons_succ]
      refine wpAnyH_ready (rs := [2, 4]) (by kernel_rfl) (by simp) ?_
      refine (AllReadyH.cons rfl (fun K hK => ?_) (AllReadyH.cons rfl (fun K hK => ?_) AllReadyH.nil))
      refine step_apG (w := (V.alloc (.cells #[] 36)).drew) rfl (.tmp 27) (.tmp 28) rfl V.heap.size (some ⟨V.heap.size, 0, none⟩) 0 0 [] rfl HoE.out A len cap X rfl (HSL.out.below HbE.out) (by have := HSZ.out; omega) (by simp; try omega) len (by omega) ?_
      intro A1 cap1 W1 hrow hgr hmv
      have hB1 : Below V.heap.size V W1 := HbE.out.trans ((Below.refl _ _).grown hgr (by simp) (fun k hk => by simp [oblk] at hk; omega))
      refine hK.out _ _ (HSB.out _ hB1) (fun hHeld => ?_)
      clear hK K
      try simp only [Act.put, List.setIfInBounds_toArray, List.set_cons_zero, List.set_cons_succ]
      refine wpAnyH_ready (rs := [4]) (by kernel_rfl) (by simp) ?_
      refine (AllReadyH.cons rfl (fun K hK => ?_) AllReadyH.nil)
      go_simp
      refine hK.out _ _ (HSB.out _ (hB1.alloc hB1.size _)) (fun hHeld => ?_)
      clear hK K
      try simp only [Act.put, List.setIfInBounds_toArray, List.set_cons_zero, List.set_cons_succ]
      have hT := Two.a (nd := (⟨op, v, n, a, b, c⟩ : Tm.Nd)) hrow hB1
      simp only [List.nil_append] at hT
      clear hrow hgr hmv hB1
      rotate_left
      go_simp
      refine hK.out _ _ (HSB.out _ HbEN.out) (fun hHeld => ?_)
      clear hK K
      try simp only [Act.put, List.setIfInBounds_toArray, List.set_cons_zero, List.set_cons_succ]
      refine wpAnyH_ready (rs := [2]) (by kernel_rfl) (by simp) ?_
      refine (AllReadyH.cons rfl (fun K hK => ?_) AllReadyH.nil)
      refine step_apG (w := ((V.alloc (.cells #[] 36)).alloc (.cells #[.int .i64 op, .int .i64 v, .int .u64 n, .int .i64 a, .int .i64 b, .int .i64 c] 36)).drew) rfl (.tmp 27) (.tmp 28) rfl V.heap.size (some ⟨V.heap.size, 0, none⟩) 0 0 [] rfl HoEN.out A len cap X rfl (HSL.out.below HbEN.out) (by have := HSZ.out; omega) (by simp; try omega) len (by omega) ?_
      intro A1 cap1 W1 hrow hgr hmv
      have hT := Two.b (nd := (⟨op, v, n, a, b, c⟩ : Tm.Nd)) hrow hgr HbEN.out HkEN.out (by simp [oblk]) (fun k hk => by simp [oblk] at hk; omega)
      simp only [List.nil_append] at hT
      refine hK.out _ _ (HSB.out _ hT.bel) (fun hHeld => ?_)
      clear hK K
      try simp only [Act.put, List.setIfInBounds_toArray, List.set_cons_zero, List.set_cons_succ]
      clear hrow hgr hmv
      rotate_left
      go_simp
      refine hK.out _ _ (HSB.out _ HbN.out) (fun hHeld => ?_)
      clear hK K
      try simp only [Act.put, List.setIfInBounds_toArray, List.set_cons_zero, List.set_cons_succ]
      refine wpAnyH_ready (rs := [0]) (by kernel_rfl) (by simp) ?_
      refine (AllReadyH.cons rfl (fun K hK => ?_) AllReadyH.nil)
      go_simp
      refine hK.out _ _ (HSB.out _ HbNE.out) (fun hHeld => ?_)
      clear hK K
      try simp only [Act.put, List.setIfInBounds_toArray, List.set_cons_zero, List.set_cons_succ]
      refine wpAnyH_ready (rs := [2]) (by kernel_rfl) (by simp) ?_
      refine (AllReadyH.cons rfl (fun K hK => ?_) AllReadyH.nil)
      refine step_apG (w := ((V.alloc (.cells #[.int .i64 op, .int .i64 v, .int .u64 n, .int .i64 a, .int .i64 b, .int .i64 c] 36)).alloc (.cells #[] 36)).drew) rfl (.tmp 27) (.tmp 28) rfl V.heap.size (some ⟨V.heap.size + 1, 0, none⟩) 0 0 [] rfl HoNE.out A len cap X rfl (HSL.out.below HbNE.out) (by have := HSZ.out; omega) (by simp; try omega) len (by omega) ?_
      intro A1 cap1 W1 hrow hgr hmv
      have hT := Two.b (nd := (⟨op, v, n, a, b, c⟩ : Tm.Nd)) hrow hgr HbNE.out HkNE.out (by simp [oblk]) (fun k hk => by simp [oblk] at hk; omega)
      simp only [List.nil_append] at hT
      refine hK.out _ _ (HSB.out _ hT.bel) (fun hHeld => ?_)
      clear hK K
      try simp only [Act.put, List.setIfInBounds_toArray, List.set_cons_zero, List.set_cons_succ]
      clear hrow hgr hmv
      rotate_left
      all_goals
        refine wpAnyH_ready (rs := [5]) (by kernel_rfl) (by simp) ?_
        refine (AllReadyH.cons rfl (fun K hK => ?_) AllReadyH.nil)
        refine step_apG rfl (.tmp 29) (.tmp 31) rfl V.heap.size A1 len cap1 X rfl hT.row (some ⟨_, 0, none⟩) 1 1 [(⟨op, v, n, a, b, c⟩ : Tm.Nd)] rfl (hT.one HWN.out) (by have := HSZ.out; omega) hT.bel.size (len + 1) rfl ?_
        intro A5 cap5 W5 hrow5 hgr5 hmv5
        have hb5 : Below V.heap.size V W5 := hT.bel.trans ((Below.refl _ _).grown hgr5 hT.bel.size (fun k hk => own_ge hT.row k (by rw [own_is]; exact hk)))
        refine hK.out _ _ (HSB.out _ hb5) (fun hHeld => ?_)
        clear hK K
        try simp only [Act.put, List.setIfInBounds_toArray, List.set_cons_zero, List.set_cons_succ]
        clear hT hgr5 hmv5
        refine wpAnyH_take (i := 8) (v := .slice A5 (len + 1) cap5) rfl (by kernel_rfl) (by kernel_rfl) (by kernel_rfl) (fun _ _ _ h => h) (Or.inl ⟨by rfl, fun w9 hSw => ?_⟩) hHeld ?_
        · (try dsimp only at hSw); go_simp
        try simp only [Act.put, List.setIfInBounds_toArray, List.set_cons_zero, List.set_cons_succ]
        refine wpAnyH_take (i := 9) (v := .int .i64 (len : Int)) rfl (by kernel_rfl) (by kernel_rfl) (by kernel_rfl) (fun _ _ _ h => h) (Or.inl ⟨by rfl, fun w9 hSw => ?_⟩) hHeld ?_
        · (try dsimp only at hSw); go_simp
        try simp only [Act.put, List.setIfInBounds_toArray, List.set_cons_zero, List.set_cons_succ]
        refine wpAnyH_take (i := 10) (v := .int .i64 0) rfl (by kernel_rfl) (by kernel_rfl) (by kernel_rfl) (fun _ _ _ h => h) (Or.inl ⟨by rfl, fun w9 hSw => ?_⟩) hHeld ?_
        · (try dsimp only at hSw); go_simp
        try simp only [Act.put, List.setIfInBounds_toArray, List.set_cons_zero, List.set_cons_succ]
        refine wpAnyH_done (by kernel_rfl) ?_ _
        clear hHeld
        have HR5 := Lib.hid hrow5
        have HB5 := Lib.hid (HB.out.trans (hb5.mono HB.out.size))
        have HB6 := Lib.hid hb5
        clear hrow5 hb5
        go_wp2
        go_ret3
        refine RmP.mk' rfl (HMK.out.trans ?_) (NdSl.of_own HR5.out (fun x hx => ?_)) HB5.out ?_
        · rw [if_neg (by rw [HXL.out, HFL.out]; simp), HXL.out]
        · rcases List.mem_append.1 hx with hx | hx
          · exact HWX.out x hx
          · rw [List.mem_singleton.1 hx]; exact HWN.out
        · rcases h : oblk A5 with _ | k
          · exfalso
            rcases HR5.out.2 with ⟨e, h0⟩ | ⟨g5, _, _, e, _⟩
            · omega
            · injection e with e1 _ _
              subst e1
              simp [oblk] at h
          · exact .inr ⟨k, Nat.le_trans HB.out.size (own_ge HR5.out k (by rw [own_is]; exact h)), h⟩
    · have hf' : (Tm.flt ⟨op, v, n, a, b, c⟩ len X != 0) = true := by simpa using hf
      have HFL := Lib.hid (HMK.out.trans (if_pos (by rw [HXL.out]; exact hf)))
      rw [HXL.out] at HFL
      clear hf HMK
      generalize Tm.flt ⟨op, v, n, a, b, c⟩ len X = E at hf' HFL ⊢
      go_wp2
      go_ret3
      exact RmP.mk' rfl HFL.out HSL.out HB.out (.inl ⟨rfl, rfl⟩)
end Go.Proofs.Ytdbcpnpcnkccaaa
namespace Go.Proofs.Ytdbcpnpcnkccaaa
set_option maxRecDepth 100000
open Go.RowKit Go.Maps

/-- The row of marks. -/
structure Nr (w : World) (b : Nat) (cs : Array Value) (B : World) : Prop where
  blk : Blk w b 4 cs
  bel : Below B.heap.size B w
  le : B.heap.size ≤ b
theorem Nr.set {w : World} {b : Nat} {cs : Array Value} {B : World} (h : Nr w b cs B) (i : Nat) : Nr (w.setCell ⟨b, i, none⟩ (.bool true)) b (cs.setIfInBounds i (.bool true)) B := ⟨h.blk.set _, h.bel.setCell h.le _, h.le⟩
theorem Nr.cell {w : World} {b : Nat} {cs : Array Value} {B : World} (h : Nr w b cs B) {i m : Nat} (hm : cs.size = m) (hi : i < m) : ∃ u, w.cell? ⟨b, i, none⟩ = some u := by
  rw [h.blk.c]
  exact ⟨_, Array.getElem?_eq_getElem (by omega)⟩
theorem set_other {cs : Array Value} {i k : Nat} {v : Value} (h : i ≠ k) : (cs.setIfInBounds i v)[k]? = cs[k]? := by
  rw [Array.getElem?_setIfInBounds, if_neg h]

section
variable {w : World} {g bm : Nat} {A : Option Addr} {cap : Nat} {X : List Tm.Nd} {q : Nat}
set_option maxRecDepth 20000 in
set_option maxHeartbeats 1000000 in
theorem at_out (h : Ar w g bm A cap X q) (p : Int) (hp : Tm.inn p X.length = false) : Calls Try.prog 43 #[.pointer (some ⟨g, 0, none⟩), .int .i64 p] w fun e w' => e = .returned (.tuple #[ndv Tm.z, .bool false]) ∧ Below w.heap.size w w' := by
  have HH := Lib.hid (has_any (h.below (Below.box w (.cells #[.int .i64 0, .int .i64 0, .int .u64 0, .int .i64 0, .int .i64 0, .int .i64 0] 36))) p)
  rw [hp] at HH
  clear h hp
  go_enter Try.func43, Try.ntmps43
  go_wp2_with (go_at_call 48; refine HH.out.mono ?_; rintro e w' ⟨rfl, rfl⟩)
  exact bodyPost_ret (v := .tuple #[ndv Tm.z, .bool false]) (by simp [results, Try.results43, go_sem, Tm.z, ndv]) rfl ⟨rfl, Below.box _ _⟩
set_option maxRecDepth 20000 in
set_option maxHeartbeats 1000000 in
theorem at_in (h : Ar w g bm A cap X q) (p : Nat) (hp : p < X.length) : Calls Try.prog 43 #[.pointer (some ⟨g, 0, none⟩), .int .i64 p] w fun e w' => e = .returned (.tuple #[ndv (X.getD p Tm.z), .bool true]) ∧ Below w.heap.size w w' := by
  have hA := h.below (Below.box w (.cells #[.int .i64 0, .int .i64 0, .int .u64 0, .int .i64 0, .int .i64 0, .int .i64 0] 36))
  have HH := Lib.hid (has_any hA p)
  rw [Tm.inn_iff.2 (show 0 ≤ (p : Int) ∧ (p : Int) < X.length by omega)] at HH
  have e0 : w.cell? ⟨g, 0, none⟩ = some (.slice A X.length cap) := h.blk.c 0
  have hg := h.blk.lt
  obtain ⟨bb, oo, rfl, hbb, hx⟩ := h.nd.mem (by omega)
  obtain ⟨x0, x1, x2, x3, x4, x5⟩ := hx p hp
  have hpx : (p : Int) < X.length := by omega
  have hp0 : (0 : Int) ≤ p := by omega
  clear h hA hx hp
  generalize X.getD p Tm.z = nd at *
  generalize X.length = ln at *
  obtain ⟨op, v, n, a, b, c⟩ := nd
  dsimp only [ndv] at *
  go_enter Try.func43, Try.ntmps43
  go_wp2_with (go_at_call 48; refine HH.out.mono ?_; rintro e w' ⟨rfl, rfl⟩)
  exact bodyPost_ret (v := .tuple #[.agg #[.int .i64 op, .int .i64 v, .int .u64 n, .int .i64 a, .int .i64 b, .int .i64 c], .bool true]) (by simp [results, Try.results43, go_sem]) rfl ⟨rfl, Below.box _ _⟩
end

set_option maxRecDepth 20000 in
theorem rterm_out (A : Option Addr) (len cap : Nat) (p : Int) (w : World) (hp : Tm.inn p len = false) :
    Calls Try.prog 39 #[.slice A len cap, .int .i64 p] w fun e w' => e = .returned (.slice none 0 0) ∧ w = w' := by
  by_cases h1 : p < 0
  · go_enter Try.func39, Try.ntmps39
    go_wp2
    go_ret
    exact ⟨rfl, rfl⟩
  · have h2 : (len : Int) ≤ p := by have := mt Tm.inn_iff.2 (by rw [hp]; simp); omega
    clear hp
    go_enter Try.func39, Try.ntmps39
    go_wp2
    go_ret
    exact ⟨rfl, rfl⟩

/-- The second loop's relation: ba the places, bh the marks, m cells each. -/
structure TmQ (w wr : World) (ba bh m : Nat) (X : List Tm.Nd) (p k : Nat) (A' : Option Addr) (cap' : Nat) : Prop where
  row : wr.ownsRow (ba + 1) 36 6 (.slice A' (Tm.tst X (Tm.hang X p) k).2.length cap') (Tm.tst X (Tm.hang X p) k).2.length ((Tm.tst X (Tm.hang X p) k).2.flatMap cells6)
  at' : Blk wr ba 3 (irow (Tm.tst X (Tm.hang X p) k).1 m)
  fl : Blk wr bh 4 (brow (Tm.hang X p) m)
  bel : Below w.heap.size w wr
  lt : bh < ba
theorem TmQ.no {w wr : World} {ba bh m : Nat} {X : List Tm.Nd} {p k : Nat} {A' : Option Addr} {cap' : Nat} (h : TmQ w wr ba bh m X p k A' cap') (hk : Tm.hang X p k = false) : TmQ w wr ba bh m X p (k + 1) A' cap' := by
  refine ⟨?_, ?_, h.fl, h.bel, h.lt⟩
  · rw [Tm.tst_no hk]; exact h.row
  · rw [Tm.tst_no hk]; exact h.at'
structure TmV (w U : World) (ba bh m : Nat) (X : List Tm.Nd) (p k : Nat) (A' : Option Addr) (cap' : Nat) : Prop where
  row : U.ownsRow (ba + 1) 36 6 (.slice A' (Tm.tst X (Tm.hang X p) k).2.length cap') (Tm.tst X (Tm.hang X p) k).2.length ((Tm.tst X (Tm.hang X p) k).2.flatMap cells6)
  at' : Blk U ba 3 (irow (Tm.tst X (Tm.hang X p) (k + 1)).1 m)
  fl : Blk U bh 4 (brow (Tm.hang X p) m)
  bel : Below w.heap.size w U
  lt : bh < ba
  nx : (Tm.tst X (Tm.hang X p) (k + 1)).2 = (Tm.tst X (Tm.hang X p) k).2 ++ [Tm.mvd (X.getD k Tm.z) (Tm.tst X (Tm.hang X p) (k + 1)).1]
theorem TmV.inr {w U : World} {ba bh m : Nat} {X : List Tm.Nd} {p k : Nat} {A' : Option Addr} {cap' : Nat} (h : TmV w U ba bh m X p k A' cap') : InR U (some ⟨ba, 0, none⟩) m (Tm.tst X (Tm.hang X p) (k + 1)).1 := fun _ =>
  ⟨ba, 0, rfl, h.at'.lt, fun i hi => by rw [Nat.zero_add]; exact (h.at'.c i).trans (irow_at hi)⟩
theorem TmV.below {w U V : World} {ba bh m : Nat} {X : List Tm.Nd} {p k : Nat} {A' : Option Addr} {cap' : Nat} (h : TmV w U ba bh m X p k A' cap') (hb : Below U.heap.size U V) : TmV w V ba bh m X p k A' cap' :=
  ⟨own_below h.row hb, (hb.block ba h.at'.lt).trans h.at', (hb.block bh h.fl.lt).trans h.fl, h.bel.trans (hb.mono h.bel.size), h.lt, h.nx⟩
theorem TmQ.store {w wr : World} {ba m : Nat} {X : List Tm.Nd} {p k : Nat} {A' : Option Addr} {cap' : Nat} (h : TmQ w wr ba w.heap.size m X p k A' cap') (hk : Tm.hang X p k = true) :
    TmV w (wr.setCell ⟨ba, k, none⟩ (.int .i64 ((Tm.tst X (Tm.hang X p) k).2.length : Int))) ba w.heap.size m X p k A' cap' := by
  have hl := h.lt
  refine ⟨own_set h.row (by show ba < ba + 1; omega) _, ?_, (Below.heap_setCell _ _ _ _ (Nat.ne_of_lt hl)).trans h.fl, h.bel.setCell (Nat.le_of_lt hl) _, hl, ?_⟩
  · have := h.at'.set (i := k) (.int .i64 ((Tm.tst X (Tm.hang X p) k).2.length : Int))
    rw [irow_set (G := (Tm.tst X (Tm.hang X p) (k + 1)).1) (fun j => by rw [Tm.tst_yes hk])] at this
    exact this
  · rw [Tm.tst_yes hk]
theorem TmV.app {w U V2 : World} {ba m : Nat} {X : List Tm.Nd} {p k : Nat} {A' A2 : Option Addr} {cap' cap2 : Nat} {o : Obj} {md : Tm.Nd} (h : TmV w U ba w.heap.size m X p k A' cap') (hm : (Tm.tst X (Tm.hang X p) (k + 1)).2 = (Tm.tst X (Tm.hang X p) k).2 ++ [md])
    (hrow : V2.ownsRow (ba + 1) 36 6 (.slice A2 ((Tm.tst X (Tm.hang X p) k).2.length + 1) cap2) ((Tm.tst X (Tm.hang X p) k).2.length + 1) (((Tm.tst X (Tm.hang X p) k).2 ++ [md]).flatMap cells6))
    (hgrow : (U.alloc o).grownBy V2 ((Value.slice A' (Tm.tst X (Tm.hang X p) k).2.length cap').ownBlock)) : TmQ w V2 ba w.heap.size m X p (k + 1) A2 cap2 := by
  have hge := own_ge h.row
  have hlt := h.lt
  have hB : Below (ba + 1) U V2 := by
    have h1 : Below (ba + 1) U (U.alloc o) := (Below.refl _ _).alloc (by have := h.at'.lt; omega) _
    exact h1.trans ((Below.refl _ _).grown hgrow (by have := h.at'.lt; simp; omega) hge)
  refine ⟨?_, (hB.block _ (by omega)).trans h.at', (hB.block _ (by omega)).trans h.fl, h.bel.trans (hB.mono (by omega)), h.lt⟩
  rw [hm, List.length_append, List.length_singleton]
  exact hrow

set_option maxRecDepth 20000 in
set_option maxHeartbeats 8000000 in
theorem rterm_in (A : Option Addr) (len cap : Nat) (X : List Tm.Nd) (p : Nat) (w : World) (hxs : NdSl w A len cap X) (hok : Tm.Ok X X.length) (hp : p < len) (hs : len ≤ 1000000) :
    Calls Try.prog 39 #[.slice A len cap, .int .i64 p] w (TeP (Tm.term X p) w) := by
  obtain ⟨bb, oo, rfl, hbb, hmem⟩ := hxs.nd.mem (by omega)
  have hmk : ∀ W : World, (Instr.makeSlice 97 (.int .i64 (len : Int)) (.int .i64 (len : Int))).run Try.prog W = .ok (.slice (some ⟨W.heap.size, 0, none⟩) len len) (W.alloc (.cells (brow (fun _ => false) len) 4)) := fun W => by
    rw [← made_b]
    exact run_make_row' 97 4 (.bool false) 1 Try.underlying97 b_info rfl .i64 .i64 len (by omega) (by omega) W
  have hb0 : Blk (w.alloc (.cells (brow (fun _ => false) len) 4)) w.heap.size 4 (brow (fun _ => false) len) := Blk.new _ _ _
  have c0 := (hb0.c p).trans (brow_at hp)
  have f0 := hb0.fr p
  have HMEM := Lib.hid hmem
  have HOK := Lib.hid (show Tm.Ok X len by rw [← hxs.hlen]; exact hok)
  have HXS := Lib.hid hxs
  have HP := Lib.hid hp
  have hp0 : ¬ (p : Int) < 0 := by omega
  have hp1 : ¬ (len : Int) ≤ p := by omega
  have hp2 : (p : Int) < len := by omega
  have hs' : (len : Int) ≤ 1000000 := by omega
  have hcl := hxs.nd.hle
  have hcm := hxs.nd.hcap
  unfold maxLen at hcm
  clear hb0 hxs hok hp hmem
  go_enter Try.func39, Try.ntmps39
  go_wp2
  clear hmk c0 f0
  go_loopw [6] (fun t wr => ∃ (k : Nat) (zz : Int) (F : Nat → Bool), k ≤ p + 1 ∧ t = .int .i64 zz ∧ zz = (k : Int) - 1 ∧ Blk wr w.heap.size 4 (brow F len) ∧ Tm.hgo X k F = Tm.hang X p ∧ Below w.heap.size w wr) (fun t _ => (intOf t + 1).toNat)
  case atStart =>
    refine ⟨p + 1, _, fun i => decide (i = p), Nat.le_refl _, rfl, by omega, ?_, rfl, (Below.refl _ _).alloc (Nat.le_refl _) _⟩
    rw [brow_set (G := fun i => decide (i = p)) (fun j => by by_cases e : j = p <;> simp [e])]
    exact Blk.new _ _ _
  case round =>
    obtain ⟨k, zz, F, hk, rfl, hz, hbl, hgo, hbw⟩ := hrel
    rcases k with _ | k
    · obtain rfl : zz = -1 := by omega
      have HBL := Lib.hid hbl
      have HG := Lib.hid hgo
      have HBW := Lib.hid hbw
      clear hbl hgo hbw hz
      obtain ⟨W0, rfl⟩ : ∃ W0, W0 = wr := ⟨_, rfl⟩
      have hmk : ∀ W : World, (Instr.makeSlice 93 (.int .i64 (len : Int)) (.int .i64 (len : Int))).run Try.prog W = .ok (.slice (some ⟨W.heap.size, 0, none⟩) len len) (W.alloc (.cells (irow (fun _ => 0) len) 3)) := fun W => by
        rw [← made_i]
        exact run_make_row' 93 3 (.int .i64 0) 8 Try.underlying93 i_info rfl .i64 .i64 len (by omega) (by omega) W
      have hV0 : Below w.heap.size w (W0.alloc (.cells (irow (fun _ => 0) len) 3)) := HBW.out.alloc HBW.out.size _
      have hstart : TmQ w (W0.alloc (.cells (irow (fun _ => 0) len) 3)) W0.heap.size w.heap.size len X p 0 none 0 :=
        ⟨World.ownsRow_nil _ _ _ _, Blk.new _ _ _, ((Below.box W0 _).block _ HBL.out.lt).trans (by rw [show Tm.hang X p = F from HG.out.symm]; exact HBL.out), hV0, HBL.out.lt⟩
      have HST := Lib.hid hstart
      have HLT := Lib.hid HBL.out.lt
      clear hV0 hstart
      go_wp2
      clear hmk
      go_loopw [9, 10] (fun l t wr => ∃ (k : Nat) (A' : Option Addr) (cap' : Nat), k ≤ p + 1 ∧ t = .int .i64 k ∧ l = .slice A' (Tm.tst X (Tm.hang X p) k).2.length cap' ∧ TmQ w wr W0.heap.size w.heap.size len X p k A' cap') (fun _ t _ => p + 1 - (intOf t).toNat)
      case atStart => exact ⟨0, none, 0, Nat.zero_le _, rfl, rfl, HST.out⟩
      case round =>
        obtain ⟨k, A', cap', hk, rfl, rfl, hT⟩ := hrel
        by_cases hlt : k < p + 1
        · have hkl : k < len := by have := HP.out; omega
          have d0 := (hT.fl.c k).trans (brow_at hkl)
          have hk1 : (k : Int) < len := by omega
          have hk0 : (0 : Int) ≤ k := by omega
          have hkp : (k : Int) ≤ p := by omega
          by_cases hF : Tm.hang X p k = true
          · have HF := Lib.hid hF
            rw [hF] at d0
            have hst := (hT.at'.c k).trans (irow_at hkl)
            have hfz := hT.at'.fr k
            have hU := hT.store hF
            have hsl := HXS.out.below hT.bel
            have hsl2 : NdSl (wr.setCell ⟨W0.heap.size, k, none⟩ (.int .i64 ((Tm.tst X (Tm.hang X p) k).2.length : Int))) (some ⟨bb, oo, none⟩) len cap X := HXS.out.below hU.bel
            clear hF hsl
            generalize hln : (Tm.tst X (Tm.hang X p) k).2.length = ln at *
            have hlk : ln ≤ k := by rw [← hln]; exact Tm.tst_len X (Tm.hang X p) k
            have HLN := Lib.hid hln
            clear hln
            clear hT
            go_upto_region 19 with fail
            clear hst hfz d0
            revert hU hsl2
            generalize wr.setCell ⟨W0.heap.size, k, none⟩ (.int .i64 ln) = U
            intro hU hsl2
            obtain ⟨b9, o9, e9, hbb9, hx⟩ := hsl2.nd.mem (by omega)
            injection e9 with e9
            injection e9 with e91 e92 e93
            subst e91 e92
            obtain ⟨x0, x1, x2, x3, x4, x5⟩ := hx k hkl
            have hokk := Tm.flt_zero (HOK.out k hkl)
            have hmd := told_any (X.getD k Tm.z) (some ⟨W0.heap.size, 0, none⟩) len len _ U hU.inr (Tm.kok_mono (by omega) hokk.2.2.1)
            have HNX := Lib.hid hU.nx
            have HU := Lib.hid hU
            clear hx hokk hsl2 hU
            generalize X.getD k Tm.z = nd at *
            generalize hmv : Tm.mvd nd _ = md at hmd HNX
            clear hmv
            obtain ⟨op, v, n, a, b, c⟩ := nd
            obtain ⟨op', v', n', a', b', c'⟩ := md
            dsimp only [ndv] at x0 x1 x2 x3 x4 x5 hmd HNX
            have HMD := Lib.hid hmd
            clear hmd
            go_wp2_with fail
            refine HMD.out.mono ?_
            rintro e V2 ⟨rfl, hb2⟩
            have HU2 := Lib.hid (HU.out.below hb2)
            have HRW := Lib.hid (show World.ownsRow (V2.alloc (.cells #[.int .i64 op', .int .i64 v', .int .u64 n', .int .i64 a', .int .i64 b', .int .i64 c'] 36)) (W0.heap.size + 1) 36 6 (.slice A' ln cap') ln ((Tm.tst X (Tm.hang X p) k).2.flatMap cells6) by
              have := HU2.out.row.alloc (.cells #[.int .i64 op', .int .i64 v', .int .u64 n', .int .i64 a', .int .i64 b', .int .i64 c'] 36)
              rw [HLN.out] at this
              exact this)
            have HNW := Lib.hid (news6 V2 ⟨op', v', n', a', b', c'⟩)
            have HBB := Lib.hid (show W0.heap.size + 1 ≤ V2.heap.size from HU2.out.at'.lt)
            clear hb2 x0 x1 x2 x3 x4 x5
            obtain ⟨i0, hi0, hz0, hz1, hz2⟩ := info_parts info38
            go_wp2_with (at_builtin
                         refine wpList_apS (w := V2.alloc (.cells #[.int .i64 op', .int .i64 v', .int .u64 n', .int .i64 a', .int .i64 b', .int .i64 c'] 36)) rfl (.tmp 72) (.tmp 79) 22 rfl (W0.heap.size + 1) 36 i0 _ 6 48 Try.underlying22 hi0 hz0 hz1 hz2 rfl (by omega) (.slice A' ln cap') ln ((Tm.tst X (Tm.hang X p) k).2.flatMap cells6) rfl
                           HRW.out ⟨V2.heap.size, 0, none⟩ 1 1 (cells6 ⟨op', v', n', a', b', c'⟩) rfl rfl HNW.out (one6 _) (by have := HP.out; simp only [maxLen]; omega) (by have := HP.out; omega) (by have := HBB.out; simp; omega) (ln + 1) (((Tm.tst X (Tm.hang X p) k).2 ++ [(⟨op', v', n', a', b', c'⟩ : Tm.Nd)]).flatMap cells6) rfl (by simp) ?_
                         intro A2 cap2 V3 hrow hgrow hmv
                         have HR3 := Lib.hid hrow
                         have HG3 := Lib.hid hgrow
                         clear hrow hgrow hmv)
            go_roundw
            case rel =>
              refine ⟨k + 1, A2, cap2, by omega, by go_num, ?_, HU2.out.app HNX.out (by rw [HLN.out]; exact HR3.out) (by rw [HLN.out]; exact HG3.out)⟩
              rw [HNX.out, List.length_append, List.length_singleton, HLN.out]
            case measure => simp [intOf]; omega
          · have hF' : Tm.hang X p k = false := by simpa using hF
            have HT := Lib.hid (hT.no hF')
            have HTN := Lib.hid (Tm.tst_no (X := X) (F := Tm.hang X p) (k := k) hF')
            rw [hF'] at d0
            clear hF hF' hT
            go_wp2
            go_roundw
            case rel => exact ⟨k + 1, A', cap', by omega, by go_num, by rw [HTN.out], HT.out⟩
            case measure => simp [intOf]; omega
        · have hke : k = p + 1 := by omega
          subst hke
          have HT := Lib.hid hT
          have hkp : ¬ ((p + 1 : Nat) : Int) ≤ p := by omega
          clear hT
          go_wp2
          go_ret
          exact ⟨A', cap', rfl, own_base HT.out.row (by have := HLT.out; omega), HT.out.bel⟩
    · obtain rfl : zz = (k : Int) := by omega
      have d0 := (hbl.c k).trans (brow_at (by have := HP.out; omega))
      have HBL := Lib.hid hbl
      have HG := Lib.hid hgo
      have hk1 : (k : Int) < len := by omega
      have hk0 : (0 : Int) ≤ k := by omega
      have hkn : k < len := by omega
      clear hz hgo
      by_cases hF : F k = true
      · have HF := Lib.hid hF
        rw [hF] at d0
        have hbb2 : bb < wr.heap.size := Nat.lt_of_lt_of_le hbb hbw.size
        have hne : w.heap.size ≠ bb := by omega
        obtain ⟨x0, x1, x2, x3, x4, x5⟩ := (HMEM.out k hkn).keep (fun o => hbw.cell (p := ⟨bb, o, none⟩) hbb)
        have hokk := Tm.flt_zero (HOK.out k hkn)
        obtain ⟨nd, hnd⟩ : ∃ nd, X.getD k Tm.z = nd := ⟨_, rfl⟩
        rw [hnd] at x0 x1 x2 x3 x4 x5 hokk
        have HND := Lib.hid hnd
        have hK := Tm.kok_in hokk.2.2.1
        have HN0 : Nr wr w.heap.size (brow F len) w := ⟨hbl, hbw, Nat.le_refl _⟩
        have HX0 := Lib.hid HN0
        clear hF hokk hnd hbl hbw HN0
        obtain ⟨op, v, n, a, b, c⟩ := nd
        dsimp only at x0 x1 x2 x3 x4 x5 hK
        have h4 : Tm.kidn op = 0 ∨ Tm.kidn op = 1 ∨ Tm.kidn op = 2 ∨ Tm.kidn op = 3 := by have := Tm.kidn_le op; omega
        rcases h4 with hkk | hkk | hkk | hkk
        · have HK := Lib.hid hkk
          clear hK hkk
          go_wp2_with fail
          refine wp_loop_rounds 1 ?_
          rw [rounds_succ]; go_wp2_with (go_at_call 20; refine (rkids_any _ _).mono ?_; rintro e w' ⟨rfl, rfl⟩; rw [HK.out])
          go_roundw
          case rel =>
            refine ⟨k, _, F, by omega, rfl, by omega, HX0.out.blk, ?_, HX0.out.bel⟩
            rw [← HG.out, Tm.hgo_yes HF.out, HND.out, Tm.mark0 HK.out]
          case measure => simp [intOf]; try omega
        · obtain ⟨r0, t0⟩ := hK.1 (by omega)
          obtain ⟨i0, rfl⟩ := Int.eq_ofNat_of_zero_le r0
          have j0 : (i0 : Int) < len := by omega
          have m0 : i0 < len := by omega
          have o0 : i0 ≠ k := by omega
          have HK := Lib.hid hkk
          clear hK hkk
          go_wp2_with fail
          refine wp_loop_rounds 2 ?_
          obtain ⟨uu0, dd0⟩ := HX0.out.cell (m := len) (by simp [bsz]) m0
          have ff0 := HX0.out.blk.fr i0
          rw [rounds_succ]; go_wp2_with (go_at_call 20; refine (rkids_any _ _).mono ?_; rintro e w' ⟨rfl, rfl⟩; rw [HK.out])
          have HN := HX0.out.set i0
          have y0 := (World.cell?_setCell_far wr ⟨w.heap.size, i0, none⟩ ⟨bb, oo + k * 6, none⟩ (.bool true) hne).trans x0
          have y1 := (World.cell?_setCell_far wr ⟨w.heap.size, i0, none⟩ ⟨bb, oo + k * 6 + 1, none⟩ (.bool true) hne).trans x1
          have y2 := (World.cell?_setCell_far wr ⟨w.heap.size, i0, none⟩ ⟨bb, oo + k * 6 + 2, none⟩ (.bool true) hne).trans x2
          have y3 := (World.cell?_setCell_far wr ⟨w.heap.size, i0, none⟩ ⟨bb, oo + k * 6 + 3, none⟩ (.bool true) hne).trans x3
          have y4 := (World.cell?_setCell_far wr ⟨w.heap.size, i0, none⟩ ⟨bb, oo + k * 6 + 4, none⟩ (.bool true) hne).trans x4
          have y5 := (World.cell?_setCell_far wr ⟨w.heap.size, i0, none⟩ ⟨bb, oo + k * 6 + 5, none⟩ (.bool true) hne).trans x5
          have dk : (wr.setCell ⟨w.heap.size, i0, none⟩ (.bool true)).cell? ⟨w.heap.size, k, none⟩ = some (.bool true) := by rw [HN.blk.c, set_other o0, ← HX0.out.blk.c]; exact d0
          clear x0 x1 x2 x3 x4 x5 d0 dd0 ff0
          revert HN y0 y1 y2 y3 y4 y5 dk
          generalize wr.setCell ⟨w.heap.size, i0, none⟩ (.bool true) = U1
          intro HN x0 x1 x2 x3 x4 x5 d0
          have HX1 := Lib.hid HN
          clear HN
          rw [rounds_succ]; go_wp2_with (go_at_call 20; refine (rkids_any _ _).mono ?_; rintro e w' ⟨rfl, rfl⟩; rw [HK.out])
          go_roundw
          case rel =>
            refine ⟨k, _, Tm.mark F (⟨op, v, n, ((i0 : Nat) : Int), b, c⟩ : Tm.Nd), by omega, rfl, by omega, ?_, ?_, HX1.out.bel⟩
            · have := HX1.out.blk
              rw [← brow_mark1 (nd := (⟨op, v, n, ((i0 : Nat) : Int), b, c⟩ : Tm.Nd)) HK.out]
              simpa only [Int.toNat_natCast] using this
            · rw [← HG.out, Tm.hgo_yes HF.out, HND.out]
          case measure => simp [intOf]; try omega
        · obtain ⟨r0, t0⟩ := hK.1 (by omega)
          obtain ⟨i0, rfl⟩ := Int.eq_ofNat_of_zero_le r0
          have j0 : (i0 : Int) < len := by omega
          have m0 : i0 < len := by omega
          have o0 : i0 ≠ k := by omega
          obtain ⟨r1, t1⟩ := hK.2.1 (by omega)
          obtain ⟨i1, rfl⟩ := Int.eq_ofNat_of_zero_le r1
          have j1 : (i1 : Int) < len := by omega
          have m1 : i1 < len := by omega
          have o1 : i1 ≠ k := by omega
          have HK := Lib.hid hkk
          clear hK hkk
          go_wp2_with fail
          refine wp_loop_rounds 3 ?_
          obtain ⟨uu0, dd0⟩ := HX0.out.cell (m := len) (by simp [bsz]) m0
          have ff0 := HX0.out.blk.fr i0
          rw [rounds_succ]; go_wp2_with (go_at_call 20; refine (rkids_any _ _).mono ?_; rintro e w' ⟨rfl, rfl⟩; rw [HK.out])
          have HN := HX0.out.set i0
          have y0 := (World.cell?_setCell_far wr ⟨w.heap.size, i0, none⟩ ⟨bb, oo + k * 6, none⟩ (.bool true) hne).trans x0
          have y1 := (World.cell?_setCell_far wr ⟨w.heap.size, i0, none⟩ ⟨bb, oo + k * 6 + 1, none⟩ (.bool true) hne).trans x1
          have y2 := (World.cell?_setCell_far wr ⟨w.heap.size, i0, none⟩ ⟨bb, oo + k * 6 + 2, none⟩ (.bool true) hne).trans x2
          have y3 := (World.cell?_setCell_far wr ⟨w.heap.size, i0, none⟩ ⟨bb, oo + k * 6 + 3, none⟩ (.bool true) hne).trans x3
          have y4 := (World.cell?_setCell_far wr ⟨w.heap.size, i0, none⟩ ⟨bb, oo + k * 6 + 4, none⟩ (.bool true) hne).trans x4
          have y5 := (World.cell?_setCell_far wr ⟨w.heap.size, i0, none⟩ ⟨bb, oo + k * 6 + 5, none⟩ (.bool true) hne).trans x5
          have dk : (wr.setCell ⟨w.heap.size, i0, none⟩ (.bool true)).cell? ⟨w.heap.size, k, none⟩ = some (.bool true) := by rw [HN.blk.c, set_other o0, ← HX0.out.blk.c]; exact d0
          clear x0 x1 x2 x3 x4 x5 d0 dd0 ff0
          revert HN y0 y1 y2 y3 y4 y5 dk
          generalize wr.setCell ⟨w.heap.size, i0, none⟩ (.bool true) = U1
          intro HN x0 x1 x2 x3 x4 x5 d0
          have HX1 := Lib.hid HN
          clear HN
          obtain ⟨uu1, dd1⟩ := HX1.out.cell (m := len) (by simp [bsz]) m1
          have ff1 := HX1.out.blk.fr i1
          rw [rounds_succ]; go_wp2_with (go_at_call 20; refine (rkids_any _ _).mono ?_; rintro e w' ⟨rfl, rfl⟩; rw [HK.out])
          have HN := HX1.out.set i1
          have y0 := (World.cell?_setCell_far U1 ⟨w.heap.size, i1, none⟩ ⟨bb, oo + k * 6, none⟩ (.bool true) hne).trans x0
          have y1 := (World.cell?_setCell_far U1 ⟨w.heap.size, i1, none⟩ ⟨bb, oo + k * 6 + 1, none⟩ (.bool true) hne).trans x1
          have y2 := (World.cell?_setCell_far U1 ⟨w.heap.size, i1, none⟩ ⟨bb, oo + k * 6 + 2, none⟩ (.bool true) hne).trans x2
          have y3 := (World.cell?_setCell_far U1 ⟨w.heap.size, i1, none⟩ ⟨bb, oo + k * 6 + 3, none⟩ (.bool true) hne).trans x3
          have y4 := (World.cell?_setCell_far U1 ⟨w.heap.size, i1, none⟩ ⟨bb, oo + k * 6 + 4, none⟩ (.bool true) hne).trans x4
          have y5 := (World.cell?_setCell_far U1 ⟨w.heap.size, i1, none⟩ ⟨bb, oo + k * 6 + 5, none⟩ (.bool true) hne).trans x5
          have dk : (U1.setCell ⟨w.heap.size, i1, none⟩ (.bool true)).cell? ⟨w.heap.size, k, none⟩ = some (.bool true) := by rw [HN.blk.c, set_other o1, ← HX1.out.blk.c]; exact d0
          clear x0 x1 x2 x3 x4 x5 d0 dd1 ff1
          revert HN y0 y1 y2 y3 y4 y5 dk
          generalize U1.setCell ⟨w.heap.size, i1, none⟩ (.bool true) = U2
          intro HN x0 x1 x2 x3 x4 x5 d0
          have HX2 := Lib.hid HN
          clear HN
          rw [rounds_succ]; go_wp2_with (go_at_call 20; refine (rkids_any _ _).mono ?_; rintro e w' ⟨rfl, rfl⟩; rw [HK.out])
          go_roundw
          case rel =>
            refine ⟨k, _, Tm.mark F (⟨op, v, n, ((i0 : Nat) : Int), ((i1 : Nat) : Int), c⟩ : Tm.Nd), by omega, rfl, by omega, ?_, ?_, HX2.out.bel⟩
            · have := HX2.out.blk
              rw [← brow_mark2 (nd := (⟨op, v, n, ((i0 : Nat) : Int), ((i1 : Nat) : Int), c⟩ : Tm.Nd)) HK.out]
              simpa only [Int.toNat_natCast] using this
            · rw [← HG.out, Tm.hgo_yes HF.out, HND.out]
          case measure => simp [intOf]; try omega
        · obtain ⟨r0, t0⟩ := hK.1 (by omega)
          obtain ⟨i0, rfl⟩ := Int.eq_ofNat_of_zero_le r0
          have j0 : (i0 : Int) < len := by omega
          have m0 : i0 < len := by omega
          have o0 : i0 ≠ k := by omega
          obtain ⟨r1, t1⟩ := hK.2.1 (by omega)
          obtain ⟨i1, rfl⟩ := Int.eq_ofNat_of_zero_le r1
          have j1 : (i1 : Int) < len := by omega
          have m1 : i1 < len := by omega
          have o1 : i1 ≠ k := by omega
          obtain ⟨r2, t2⟩ := hK.2.2 (by omega)
          obtain ⟨i2, rfl⟩ := Int.eq_ofNat_of_zero_le r2
          have j2 : (i2 : Int) < len := by omega
          have m2 : i2 < len := by omega
          have o2 : i2 ≠ k := by omega
          have HK := Lib.hid hkk
          clear hK hkk
          go_wp2_with fail
          refine wp_loop_rounds 4 ?_
          obtain ⟨uu0, dd0⟩ := HX0.out.cell (m := len) (by simp [bsz]) m0
          have ff0 := HX0.out.blk.fr i0
          rw [rounds_succ]; go_wp2_with (go_at_call 20; refine (rkids_any _ _).mono ?_; rintro e w' ⟨rfl, rfl⟩; rw [HK.out])
          have HN := HX0.out.set i0
          have y0 := (World.cell?_setCell_far wr ⟨w.heap.size, i0, none⟩ ⟨bb, oo + k * 6, none⟩ (.bool true) hne).trans x0
          have y1 := (World.cell?_setCell_far wr ⟨w.heap.size, i0, none⟩ ⟨bb, oo + k * 6 + 1, none⟩ (.bool true) hne).trans x1
          have y2 := (World.cell?_setCell_far wr ⟨w.heap.size, i0, none⟩ ⟨bb, oo + k * 6 + 2, none⟩ (.bool true) hne).trans x2
          have y3 := (World.cell?_setCell_far wr ⟨w.heap.size, i0, none⟩ ⟨bb, oo + k * 6 + 3, none⟩ (.bool true) hne).trans x3
          have y4 := (World.cell?_setCell_far wr ⟨w.heap.size, i0, none⟩ ⟨bb, oo + k * 6 + 4, none⟩ (.bool true) hne).trans x4
          have y5 := (World.cell?_setCell_far wr ⟨w.heap.size, i0, none⟩ ⟨bb, oo + k * 6 + 5, none⟩ (.bool true) hne).trans x5
          have dk : (wr.setCell ⟨w.heap.size, i0, none⟩ (.bool true)).cell? ⟨w.heap.size, k, none⟩ = some (.bool true) := by rw [HN.blk.c, set_other o0, ← HX0.out.blk.c]; exact d0
          clear x0 x1 x2 x3 x4 x5 d0 dd0 ff0
          revert HN y0 y1 y2 y3 y4 y5 dk
          generalize wr.setCell ⟨w.heap.size, i0, none⟩ (.bool true) = U1
          intro HN x0 x1 x2 x3 x4 x5 d0
          have HX1 := Lib.hid HN
          clear HN
          obtain ⟨uu1, dd1⟩ := HX1.out.cell (m := len) (by simp [bsz]) m1
          have ff1 := HX1.out.blk.fr i1
          rw [rounds_succ]; go_wp2_with (go_at_call 20; refine (rkids_any _ _).mono ?_; rintro e w' ⟨rfl, rfl⟩; rw [HK.out])
          have HN := HX1.out.set i1
          have y0 := (World.cell?_setCell_far U1 ⟨w.heap.size, i1, none⟩ ⟨bb, oo + k * 6, none⟩ (.bool true) hne).trans x0
          have y1 := (World.cell?_setCell_far U1 ⟨w.heap.size, i1, none⟩ ⟨bb, oo + k * 6 + 1, none⟩ (.bool true) hne).trans x1
          have y2 := (World.cell?_setCell_far U1 ⟨w.heap.size, i1, none⟩ ⟨bb, oo + k * 6 + 2, none⟩ (.bool true) hne).trans x2
          have y3 := (World.cell?_setCell_far U1 ⟨w.heap.size, i1, none⟩ ⟨bb, oo + k * 6 + 3, none⟩ (.bool true) hne).trans x3
          have y4 := (World.cell?_setCell_far U1 ⟨w.heap.size, i1, none⟩ ⟨bb, oo + k * 6 + 4, none⟩ (.bool true) hne).trans x4
          have y5 := (World.cell?_setCell_far U1 ⟨w.heap.size, i1, none⟩ ⟨bb, oo + k * 6 + 5, none⟩ (.bool true) hne).trans x5
          have dk : (U1.setCell ⟨w.heap.size, i1, none⟩ (.bool true)).cell? ⟨w.heap.size, k, none⟩ = some (.bool true) := by rw [HN.blk.c, set_other o1, ← HX1.out.blk.c]; exact d0
          clear x0 x1 x2 x3 x4 x5 d0 dd1 ff1
          revert HN y0 y1 y2 y3 y4 y5 dk
          generalize U1.setCell ⟨w.heap.size, i1, none⟩ (.bool true) = U2
          intro HN x0 x1 x2 x3 x4 x5 d0
          have HX2 := Lib.hid HN
          clear HN
          obtain ⟨uu2, dd2⟩ := HX2.out.cell (m := len) (by simp [bsz]) m2
          have ff2 := HX2.out.blk.fr i2
          rw [rounds_succ]; go_wp2_with (go_at_call 20; refine (rkids_any _ _).mono ?_; rintro e w' ⟨rfl, rfl⟩; rw [HK.out])
          have HN := HX2.out.set i2
          have y0 := (World.cell?_setCell_far U2 ⟨w.heap.size, i2, none⟩ ⟨bb, oo + k * 6, none⟩ (.bool true) hne).trans x0
          have y1 := (World.cell?_setCell_far U2 ⟨w.heap.size, i2, none⟩ ⟨bb, oo + k * 6 + 1, none⟩ (.bool true) hne).trans x1
          have y2 := (World.cell?_setCell_far U2 ⟨w.heap.size, i2, none⟩ ⟨bb, oo + k * 6 + 2, none⟩ (.bool true) hne).trans x2
          have y3 := (World.cell?_setCell_far U2 ⟨w.heap.size, i2, none⟩ ⟨bb, oo + k * 6 + 3, none⟩ (.bool true) hne).trans x3
          have y4 := (World.cell?_setCell_far U2 ⟨w.heap.size, i2, none⟩ ⟨bb, oo + k * 6 + 4, none⟩ (.bool true) hne).trans x4
          have y5 := (World.cell?_setCell_far U2 ⟨w.heap.size, i2, none⟩ ⟨bb, oo + k * 6 + 5, none⟩ (.bool true) hne).trans x5
          have dk : (U2.setCell ⟨w.heap.size, i2, none⟩ (.bool true)).cell? ⟨w.heap.size, k, none⟩ = some (.bool true) := by rw [HN.blk.c, set_other o2, ← HX2.out.blk.c]; exact d0
          clear x0 x1 x2 x3 x4 x5 d0 dd2 ff2
          revert HN y0 y1 y2 y3 y4 y5 dk
          generalize U2.setCell ⟨w.heap.size, i2, none⟩ (.bool true) = U3
          intro HN x0 x1 x2 x3 x4 x5 d0
          have HX3 := Lib.hid HN
          clear HN
          rw [rounds_succ]; go_wp2_with (go_at_call 20; refine (rkids_any _ _).mono ?_; rintro e w' ⟨rfl, rfl⟩; rw [HK.out])
          go_roundw
          case rel =>
            refine ⟨k, _, Tm.mark F (⟨op, v, n, ((i0 : Nat) : Int), ((i1 : Nat) : Int), ((i2 : Nat) : Int)⟩ : Tm.Nd), by omega, rfl, by omega, ?_, ?_, HX3.out.bel⟩
            · have := HX3.out.blk
              rw [← brow_mark3 (nd := (⟨op, v, n, ((i0 : Nat) : Int), ((i1 : Nat) : Int), ((i2 : Nat) : Int)⟩ : Tm.Nd)) HK.out]
              simpa only [Int.toNat_natCast] using this
            · rw [← HG.out, Tm.hgo_yes HF.out, HND.out]
          case measure => simp [intOf]; try omega
      · have hF' : F k = false := by simpa using hF
        have HF := Lib.hid hF'
        have HBW := Lib.hid hbw
        rw [hF'] at d0
        clear hF hF' hbl hbw
        go_wp2_with fail
        refine wp_loop_rounds 1 ?_
        rw [rounds_succ]; go_wp2
        go_roundw
        case rel => exact ⟨k, _, F, by omega, rfl, by omega, HBL.out, by rw [← HG.out, Tm.hgo_no HF.out], HBW.out⟩
        case measure => simp [intOf]; try omega
end Go.Proofs.Ytdbcpnpcnkccaaa
namespace Go.Proofs.Ytdbcpnpcnkccaaa
set_option maxRecDepth 100000
open Go.RowKit Go.Maps

theorem i64_small {x : Int} (h0 : 0 ≤ x) (h1 : x ≤ 1000000000) : (Lit.int .i64 x).wf = true := WalkArith.wf_i64 (by omega)
theorem Tm.Wf.mvd {nd : Tm.Nd} {at' : Nat → Int} (h : Tm.Wf nd) (ha : ∀ j, 0 ≤ at' j ∧ at' j ≤ 1000000000) : Tm.Wf (Tm.mvd nd at') := by
  refine ⟨h.op, h.w, h.n, ?_, ?_, ?_⟩
  all_goals
    unfold Tm.mvd
    dsimp only
    split
  · exact i64_small (ha _).1 (ha _).2
  · exact h.a
  · exact i64_small (ha _).1 (ha _).2
  · exact h.b
  · exact i64_small (ha _).1 (ha _).2
  · exact h.c
theorem getD_wf {X : List Tm.Nd} (h : ∀ x ∈ X, Tm.Wf x) (i : Nat) : Tm.Wf (X.getD i Tm.z) := by
  rw [List.getD_eq_getElem?_getD]
  rcases Nat.lt_or_ge i X.length with h1 | h1
  · rw [List.getElem?_eq_getElem h1]; exact h _ (List.getElem_mem h1)
  · rw [List.getElem?_eq_none h1]; exact Tm.wf_z
theorem Tm.tst_wf {X : List Tm.Nd} {F : Nat → Bool} (h : ∀ x ∈ X, Tm.Wf x) : ∀ k, k ≤ 1000000 → (∀ j, 0 ≤ (Tm.tst X F k).1 j ∧ (Tm.tst X F k).1 j ≤ 1000000000) ∧ ∀ x ∈ (Tm.tst X F k).2, Tm.Wf x
  | 0, _ => ⟨fun j => by simp [Tm.tst], fun x hx => by simp [Tm.tst] at hx⟩
  | k + 1, hk => by
    obtain ⟨h1, h2⟩ := Tm.tst_wf h k (by omega)
    have hl := Tm.tst_len X F k
    by_cases hF : F k = true
    · rw [Tm.tst_yes hF]
      have ha : ∀ j, 0 ≤ (if j = k then ((Tm.tst X F k).2.length : Int) else (Tm.tst X F k).1 j) ∧ (if j = k then ((Tm.tst X F k).2.length : Int) else (Tm.tst X F k).1 j) ≤ 1000000000 := fun j => by
        split
        · omega
        · exact h1 j
      refine ⟨ha, fun x hx => ?_⟩
      rcases List.mem_append.1 hx with hx | hx
      · exact h2 x hx
      · rw [List.mem_singleton.1 hx]
        exact (getD_wf h k).mvd ha
    · rw [Tm.tst_no (by simpa using hF)]
      exact ⟨h1, h2⟩
theorem Tm.term_wf {X : List Tm.Nd} (h : ∀ x ∈ X, Tm.Wf x) {p : Nat} (hp : p + 1 ≤ 1000000) : ∀ x ∈ Tm.term X p, Tm.Wf x := (Tm.tst_wf h (p + 1) hp).2

/-- A list beside an arena. -/
structure Bs (w : World) (g bm : Nat) (A : Option Addr) (A' : Option Addr) (n cap' : Nat) (X : List Tm.Nd) : Prop where
  sl : NdSl w A' n cap' X
  ne : 0 < n → ∀ k, oblk A' = some k → k ≠ g ∧ k ≠ bm ∧ oblk A ≠ some k
theorem NdR.lt {w : World} {A : Option Addr} {len cap : Nat} {X : List Tm.Nd} (h : NdR w A len cap X) (h0 : 0 < len) {k : Nat} (hk : oblk A = some k) : k < w.heap.size := by
  obtain ⟨b, o, e, hlt, hx⟩ := h.mem h0
  rw [e] at hk
  simp [oblk] at hk
  omega
theorem NdR.keep {w w' : World} {A : Option Addr} {len cap : Nat} {X : List Tm.Nd} (h : NdR w A len cap X) (hs : w.heap.size ≤ w'.heap.size) (hk : 0 < len → ∀ k, oblk A = some k → k < w.heap.size → w'.heap[k]? = w.heap[k]?) : NdR w' A len cap X :=
  ⟨h.hle, h.hcap, h.hnone, fun h0 => by
    obtain ⟨b, o, e, hlt, hx⟩ := h.mem h0
    have hb := hk h0 b (by rw [e]; rfl) hlt
    exact ⟨b, o, e, Nat.lt_of_lt_of_le hlt hs, fun i hi => (hx i hi).keep fun o => by simp [World.cell?, hb]⟩⟩
theorem Bs.make {w w' : World} {g bm : Nat} {A A2 : Option Addr} {A' : Option Addr} {n cap' : Nat} {X : List Tm.Nd} (h : Bs w g bm A A' n cap' X) (hf : Fr g (some bm) (oblk A) w w') (hv : Moves w.heap.size (oblk A) (oblk A2)) : Bs w' g bm A2 A' n cap' X := by
  refine ⟨⟨h.sl.hlen, h.sl.nd.keep hf.size fun h0 k hk hlt => ?_, h.sl.wf⟩, fun h0 k hk => ?_⟩
  · obtain ⟨h1, h2, h3⟩ := h.ne h0 k hk
    exact hf.block k hlt h1 (fun e => h2 (Option.some.inj e)) (fun e => h3 e.symm)
  · obtain ⟨h1, h2, h3⟩ := h.ne h0 k hk
    refine ⟨h1, h2, fun e => ?_⟩
    rcases hv with e' | ⟨j, hj, e'⟩
    · exact h3 (e' ▸ e)
    · rw [e'] at e
      injection e with e
      have := h.sl.nd.lt h0 hk
      omega
theorem Bs.ref {w w' : World} {g bm : Nat} {A A' A2 : Option Addr} {n n2 cap' cap2 : Nat} {X Y : List Tm.Nd} {q : Nat} {cap : Nat} {Z : List Tm.Nd} (h : Bs w g bm A A' n cap' X) (har : Ar w g bm A cap Z q) (hs : NdSl w' A2 n2 cap2 Y) (hv : Mv2 w.heap.size A' X A2 Y) : Bs w' g bm A A2 n2 cap2 Y := by
  refine ⟨hs, fun h0 k hk => ?_⟩
  rcases hv with ⟨rfl, rfl⟩ | ⟨j, hj, e⟩
  · exact h.ne (by have := h.sl.hlen; have := hs.hlen; omega) k hk
  · rw [e] at hk
    injection hk with hk
    subst hk
    have h1 := har.blk.lt
    have h2 := har.mlt
    refine ⟨by omega, by omega, fun e2 => ?_⟩
    have := (har.ne.2 j e2).2.2
    omega
theorem Bs.below {w w' : World} {g bm : Nat} {A : Option Addr} {A' : Option Addr} {n cap' : Nat} {X : List Tm.Nd} (h : Bs w g bm A A' n cap' X) (hb : Below w.heap.size w w') : Bs w' g bm A A' n cap' X :=
  ⟨h.sl.below hb, h.ne⟩
theorem Tm.mk_len (X : List Tm.Nd) (nd : Tm.Nd) : (Tm.mk X nd).1.length ≤ X.length + 1 := by
  unfold Tm.mk
  split
  · simp
  · split <;> simp

/-- The first loop's relation. -/
structure MkR (w wr : World) (g bm : Nat) (k : Nat) (X : List Tm.Nd) (A : Option Addr) (cap : Nat) (A' : Option Addr) (cap' : Nat) : Prop where
  aw : Aw w.heap.size w wr g bm A cap X k
  bs : Bs wr g bm A A' X.length cap' X
  le : X.length ≤ k

end Go.Proofs.Ytdbcpnpcnkccaaa
