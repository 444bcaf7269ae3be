/-
  The contract of Term.
-/
import Derived.Test.YtfehmbcgehflmaaTmT2
namespace Go.Proofs.Ytfehmbcgehflmaa
set_option linter.unusedSimpArgs false
set_option linter.unusedVariables false
open Go.RowKit Go.Maps

/-- The term so far: where each node went, and the nodes. -/
def Tm.tst (X : List Tm.Nd) (F : Nat → Bool) : Nat → (Nat → Int) × List Tm.Nd
  | 0 => (fun _ => 0, [])
  | k + 1 => if F k = true then
      ((fun j => if j = k then ((Tm.tst X F k).2.length : Int) else (Tm.tst X F k).1 j),
       (Tm.tst X F k).2 ++ [Tm.mvd (X.getD k Tm.z) (fun j => if j = k then ((Tm.tst X F k).2.length : Int) else (Tm.tst X F k).1 j)])
    else Tm.tst X F k
def Tm.term (X : List Tm.Nd) (p : Nat) : List Tm.Nd := (Tm.tst X (Tm.hang X p) (p + 1)).2
theorem Tm.tst_yes {X : List Tm.Nd} {F : Nat → Bool} {k : Nat} (h : F k = true) : Tm.tst X F (k + 1) = ((fun j => if j = k then ((Tm.tst X F k).2.length : Int) else (Tm.tst X F k).1 j),
       (Tm.tst X F k).2 ++ [Tm.mvd (X.getD k Tm.z) (fun j => if j = k then ((Tm.tst X F k).2.length : Int) else (Tm.tst X F k).1 j)]) := by rw [Tm.tst, if_pos h]
theorem Tm.tst_no {X : List Tm.Nd} {F : Nat → Bool} {k : Nat} (h : F k = false) : Tm.tst X F (k + 1) = Tm.tst X F k := by rw [Tm.tst, if_neg (by rw [h]; simp)]
theorem Tm.tst_len (X : List Tm.Nd) (F : Nat → Bool) (k : Nat) : (Tm.tst X F k).2.length ≤ k := by
  induction k with
  | zero => simp [Tm.tst]
  | succ k ih =>
    by_cases h : F k = true
    · rw [Tm.tst_yes h]; simp; exact ih
    · rw [Tm.tst_no (by simpa using h)]; omega
theorem Tm.inn_mono {a : Int} {m n : Nat} (h : m ≤ n) (k : Tm.inn a m = true) : Tm.inn a n = true := by
  rw [Tm.inn_iff] at k ⊢; omega
theorem Tm.kok_mono {nd : Tm.Nd} {m n : Nat} (h : m ≤ n) (k : Tm.kok nd m = true) : Tm.kok nd n = true := by
  unfold Tm.kok at k ⊢
  simp only [Bool.and_eq_true] at k ⊢
  obtain ⟨k0, k1, k2⟩ := k
  refine ⟨?_, ?_, ?_⟩
  · split
    · rename_i e; rw [if_pos e] at k0; exact Tm.inn_mono h k0
    · rename_i e; rw [if_neg e] at k0; exact k0
  · split
    · rename_i e; rw [if_pos e] at k1; exact Tm.inn_mono h k1
    · rename_i e; rw [if_neg e] at k1; exact k1
  · split
    · rename_i e; rw [if_pos e] at k2; exact Tm.inn_mono h k2
    · rename_i e; rw [if_neg e] at k2; exact k2
theorem own_set {w : World} {base : Nat} {e : TypeId} {size : Nat} {v : Value} {n : Nat} {xs : List Value} (h : w.ownsRow base e size v n xs) {p : Addr} (hp : p.block < base) (u : Value) : (w.setCell p u).ownsRow base e size v n xs := by
  rcases h with ⟨hl, ⟨e', h0⟩ | ⟨g', cap', cur, e', hb, hc, h1, h2, h3, h4⟩⟩
  · exact ⟨hl, .inl ⟨e', h0⟩⟩
  · exact ⟨hl, .inr ⟨g', cap', cur, e', hb, (Below.heap_setCell _ _ _ _ (by omega)).trans hc, h1, h2, h3, h4⟩⟩
theorem own_below {w w' : World} {base : Nat} {e : TypeId} {size : Nat} {v : Value} {n : Nat} {xs : List Value} (h : w.ownsRow base e size v n xs) (hb : Below w.heap.size w w') : w'.ownsRow base e size v n xs := by
  rcases h with ⟨hl, ⟨e', h0⟩ | ⟨g', cap', cur, e', hb', hc, h1, h2, h3, h4⟩⟩
  · exact ⟨hl, .inl ⟨e', h0⟩⟩
  · exact ⟨hl, .inr ⟨g', cap', cur, e', hb', (hb.block g' (Array.getElem?_eq_some_iff.1 hc).1).trans hc, h1, h2, h3, h4⟩⟩
theorem own_base {w : World} {base base' : Nat} {e : TypeId} {size : Nat} {v : Value} {n : Nat} {xs : List Value} (h : w.ownsRow base e size v n xs) (hb : base' ≤ base) : w.ownsRow base' e size v n xs := by
  rcases h with ⟨hl, ⟨e', h0⟩ | ⟨g', cap', cur, e', hb', hc, h1, h2, h3, h4⟩⟩
  · exact ⟨hl, .inl ⟨e', h0⟩⟩
  · exact ⟨hl, .inr ⟨g', cap', cur, e', Nat.le_trans hb hb', hc, h1, h2, h3, h4⟩⟩
theorem own_ge {w : World} {base : Nat} {e : TypeId} {size : Nat} {A : Option Addr} {n cap : Nat} {xs : List Value} (h : w.ownsRow base e size (.slice A n cap) n xs) : ∀ k, (Value.slice A n cap).ownBlock = some k → base ≤ k := fun k hk => by
  rcases h.2 with ⟨e', _⟩ | ⟨g', cap', cur, e', hb', _⟩
  · injection e' with e1 _ _
    subst e1
    simp [Value.ownBlock] at hk
  · injection e' with e1 _ _
    subst e1
    simp [Value.ownBlock] at hk
    omega

/-- A list of nodes of the call's own. -/
def TeP (Y : List Tm.Nd) (w : World) (e : Ending) (w' : World) : Prop :=
  ∃ A' cap', e = .returned (.slice A' Y.length cap') ∧ w'.ownsRow w.heap.size 38 6 (.slice A' Y.length cap') Y.length (Y.flatMap cells6) ∧ Below w.heap.size w w'

set_option maxRecDepth 20000 in
theorem term_out (g bm : Nat) (A : Option Addr) (cap : Nat) (X : List Tm.Nd) (q : Nat) (p : Int) (w : World) (h : Ar w g bm A cap X q) (hp : Tm.inn p X.length = false) :
    Calls Try.prog 21 #[.pointer (some ⟨g, 0, none⟩), .int .i64 p] w fun e w' => e = .returned (.slice none 0 0) ∧ w = w' := by
  have HH := Lib.hid (has_any h p)
  rw [hp] at HH
  clear h hp
  go_enter Try.func21, Try.ntmps21
  go_wp2_with (go_at_call 30; refine HH.out.mono ?_; rintro e w' ⟨rfl, rfl⟩)
  go_ret
  exact ⟨rfl, rfl⟩

/-- The loop's relation. -/
structure TmR (w wr : World) (ba bh : Nat) (X : List Tm.Nd) (p k : Nat) (A' : Option Addr) (cap' : Nat) : Prop where
  row : wr.ownsRow (bh + 1) 38 6 (.slice A' (Tm.tst X (Tm.hang X p) k).2.length cap') (Tm.tst X (Tm.hang X p) k).2.length ((Tm.tst X (Tm.hang X p) k).2.flatMap cells6)
  at' : Blk wr ba 3 (irow (Tm.tst X (Tm.hang X p) k).1 (p + 1))
  fl : Blk wr bh 4 (brow (Tm.hang X p) (p + 1))
  bel : Below w.heap.size w wr
theorem TmR.no {w wr : World} {ba bh : Nat} {X : List Tm.Nd} {p k : Nat} {A' : Option Addr} {cap' : Nat} (h : TmR w wr ba bh X p k A' cap') (hk : Tm.hang X p k = false) : TmR w wr ba bh X p (k + 1) A' cap' := by
  refine ⟨?_, ?_, h.fl, h.bel⟩
  · rw [Tm.tst_no hk]; exact h.row
  · rw [Tm.tst_no hk]; exact h.at'

/-- Behind the store of a node's place. -/
structure TmS (w U : World) (ba bh : Nat) (X : List Tm.Nd) (p k : Nat) (A' : Option Addr) (cap' : Nat) : Prop where
  row : U.ownsRow (bh + 1) 38 6 (.slice A' (Tm.tst X (Tm.hang X p) k).2.length cap') (Tm.tst X (Tm.hang X p) k).2.length ((Tm.tst X (Tm.hang X p) k).2.flatMap cells6)
  at' : Blk U ba 3 (irow (Tm.tst X (Tm.hang X p) (k + 1)).1 (p + 1))
  fl : Blk U bh 4 (brow (Tm.hang X p) (p + 1))
  bel : Below w.heap.size w U
  lt : ba < bh
  nx : (Tm.tst X (Tm.hang X p) (k + 1)).2 = (Tm.tst X (Tm.hang X p) k).2 ++ [Tm.mvd (X.getD k Tm.z) (Tm.tst X (Tm.hang X p) (k + 1)).1]
theorem TmS.inr {w U : World} {ba bh : Nat} {X : List Tm.Nd} {p k : Nat} {A' : Option Addr} {cap' : Nat} (h : TmS w U ba bh X p k A' cap') : InR U (some ⟨ba, 0, none⟩) (p + 1) (Tm.tst X (Tm.hang X p) (k + 1)).1 := fun _ =>
  ⟨ba, 0, rfl, h.at'.lt, fun i hi => by rw [Nat.zero_add]; exact (h.at'.c i).trans (irow_at hi)⟩
theorem TmS.below {w U V : World} {ba bh : Nat} {X : List Tm.Nd} {p k : Nat} {A' : Option Addr} {cap' : Nat} (h : TmS w U ba bh X p k A' cap') (hb : Below U.heap.size U V) : TmS w V ba bh X p k A' cap' :=
  ⟨own_below h.row hb, (hb.block ba h.at'.lt).trans h.at', (hb.block bh h.fl.lt).trans h.fl, h.bel.trans (hb.mono h.bel.size), h.lt, h.nx⟩
theorem TmR.store {w wr : World} {bh : Nat} {X : List Tm.Nd} {p k : Nat} {A' : Option Addr} {cap' : Nat} (h : TmR w wr w.heap.size bh X p k A' cap') (hk : Tm.hang X p k = true) (hl : w.heap.size < bh) :
    TmS w (wr.setCell ⟨w.heap.size, k, none⟩ (.int .i64 ((Tm.tst X (Tm.hang X p) k).2.length : Int))) w.heap.size bh X p k A' cap' := by
  refine ⟨own_set h.row (by show w.heap.size < bh + 1; omega) _, ?_, (Below.heap_setCell _ _ _ _ (Nat.ne_of_gt hl)).trans h.fl, h.bel.setCell (Nat.le_refl _) _, hl, ?_⟩
  · have := h.at'.set (i := k) (.int .i64 ((Tm.tst X (Tm.hang X p) k).2.length : Int))
    rw [irow_set (G := (Tm.tst X (Tm.hang X p) (k + 1)).1) (fun j => by rw [Tm.tst_yes hk])] at this
    exact this
  · rw [Tm.tst_yes hk]
theorem TmS.app {w U V2 : World} {bh : Nat} {X : List Tm.Nd} {p k : Nat} {A' A2 : Option Addr} {cap' cap2 : Nat} {o : Obj} {md : Tm.Nd} (h : TmS w U w.heap.size bh X p k A' cap') (hm : (Tm.tst X (Tm.hang X p) (k + 1)).2 = (Tm.tst X (Tm.hang X p) k).2 ++ [md])
    (hrow : V2.ownsRow (bh + 1) 38 6 (.slice A2 ((Tm.tst X (Tm.hang X p) k).2.length + 1) cap2) ((Tm.tst X (Tm.hang X p) k).2.length + 1) (((Tm.tst X (Tm.hang X p) k).2 ++ [md]).flatMap cells6))
    (hgrow : (U.alloc o).grownBy V2 ((Value.slice A' (Tm.tst X (Tm.hang X p) k).2.length cap').ownBlock)) : TmR w V2 w.heap.size bh X p (k + 1) A2 cap2 := by
  have hge := own_ge h.row
  have hlt := h.lt
  have hB : Below (bh + 1) U V2 := by
    have h1 : Below (bh + 1) U (U.alloc o) := (Below.refl _ _).alloc (by have := h.fl.lt; omega) _
    exact h1.trans ((Below.refl _ _).grown hgrow (by have := h.fl.lt; simp; omega) hge)
  refine ⟨?_, (hB.block _ (by omega)).trans h.at', (hB.block _ (by omega)).trans h.fl, h.bel.trans (hB.mono (by omega))⟩
  rw [hm, List.length_append, List.length_singleton]
  exact hrow

set_option maxRecDepth 20000 in
set_option maxHeartbeats 4000000 in
theorem term_in (g bm : Nat) (A : Option Addr) (cap : Nat) (X : List Tm.Nd) (q : Nat) (p : Nat) (w : World) (h : Ar w g bm A cap X q) (hp : p < X.length) (hs : X.length ≤ 1000000) :
    Calls Try.prog 21 #[.pointer (some ⟨g, 0, none⟩), .int .i64 p] w (TeP (Tm.term X p) w) := by
  have hmk : ∀ W : World, (Instr.makeSlice 67 (.int .i64 ((p + 1 : Nat) : Int)) (.int .i64 ((p + 1 : Nat) : Int))).run Try.prog W = .ok (.slice (some ⟨W.heap.size, 0, none⟩) (p + 1) (p + 1)) (W.alloc (.cells (irow (fun _ => 0) (p + 1)) 3)) := fun W => by
    rw [← made_i]
    exact run_make_row' 67 3 (.int .i64 0) 8 Try.underlying67 i_info rfl .i64 .i64 (p + 1) (by omega) (by omega) W
  have ep : ((p + 1 : Nat) : Int) = (p : Int) + 1 := by omega
  rw [ep] at hmk
  have HH := Lib.hid (has_any h p)
  rw [Tm.inn_iff.2 (show 0 ≤ (p : Int) ∧ (p : Int) < X.length by omega)] at HH
  have hb0 : Blk (w.alloc (.cells (irow (fun _ => 0) (p + 1)) 3)) w.heap.size 3 (irow (fun _ => 0) (p + 1)) := Blk.new _ _ _
  have hB1 : Below w.heap.size w (w.alloc (.cells (irow (fun _ => 0) (p + 1)) 3)) := Below.box _ _
  have HHo := Lib.hid (hangs_any g bm A cap X q p _ (h.below hB1) hp hs)
  have HB0 := Lib.hid hb0
  have HB1 := Lib.hid hB1
  have HA := Lib.hid h
  have HP := Lib.hid hp
  have HS := Lib.hid hs
  have hpl : (p : Int) < 1000000 := by omega
  clear hb0 h hp hs ep hB1
  go_enter Try.func21, Try.ntmps21
  go_wp2_with (go_at_call 30; refine HH.out.mono ?_; rintro e w' ⟨rfl, rfl⟩)
  refine HHo.out.mono ?_
  rintro e V ⟨bh, rfl, hbh, hfl, hbV⟩
  have hstart : TmR w V w.heap.size bh X p 0 none 0 := ⟨World.ownsRow_nil _ _ _ _, (hbV.block _ (by simp)).trans HB0.out, hfl, HB1.out.trans (hbV.mono HB1.out.size)⟩
  have hbh' : w.heap.size < bh := by simp at hbh; omega
  have HST := Lib.hid hstart
  clear hmk hbh hfl hbV hstart HHo HH HB0 HB1
  go_wp2_with fail
  go_loopw [5, 20] (fun l t wr => ∃ (k : Nat) (A' : Option Addr) (cap' : Nat), k ≤ p + 1 ∧ t = .int .i64 k ∧ l = .slice A' (Tm.tst X (Tm.hang X p) k).2.length cap' ∧ TmR w wr w.heap.size bh X p k A' cap') (fun _ t _ => p + 1 - (intOf t).toNat)
  case atStart => exact ⟨0, none, 0, Nat.zero_le _, rfl, rfl, HST.out⟩
  case round =>
    obtain ⟨k, A', cap', hk, rfl, rfl, hT⟩ := hrel
    by_cases hlt : k < p + 1
    · have d0 := (hT.fl.c k).trans (brow_at hlt)
      have hk1 : (k : Int) < (p : Int) + 1 := by omega
      have hk0 : (0 : Int) ≤ k := by omega
      by_cases hF : Tm.hang X p k = true
      · have HF := Lib.hid hF
        rw [hF] at d0
        have hBw := hT.bel
        have hA := HA.out.below hBw
        have hst := (hT.at'.c k).trans (irow_at hlt)
        have hfz := hT.at'.fr k
        have hU := hT.store hF hbh'
        clear hF hBw
        generalize hln : (Tm.tst X (Tm.hang X p) k).2.length = ln at *
        have hlk : ln ≤ k := by rw [← hln]; exact Tm.tst_len X (Tm.hang X p) k
        have HLN := Lib.hid hln
        clear hln
        have hAU := hA.keep (w' := wr.setCell ⟨w.heap.size, k, none⟩ (.int .i64 ln)) (by simp) (fun j hj => Below.heap_setCell _ _ _ _ (by
          rcases hj with rfl | rfl | hj
          · exact Nat.ne_of_lt HA.out.blk.lt
          · exact Nat.ne_of_lt HA.out.mlt
          · exact Nat.ne_of_lt (HA.out.ne.2 j hj).2.2))
        have HT := Lib.hid hT
        clear hT hA
        go_upto_region 10 with fail
        clear hst hfz d0
        revert hU hAU
        generalize wr.setCell ⟨w.heap.size, k, none⟩ (.int .i64 ln) = U
        intro hU hAU
        have e0 : U.cell? ⟨g, 0, none⟩ = some (.slice A X.length cap) := hAU.blk.c 0
        obtain ⟨bb, oo, rfl, hbb, hx⟩ := hAU.nd.mem (by have := HP.out; omega)
        obtain ⟨x0, x1, x2, x3, x4, x5⟩ := hx k (by have := HP.out; omega)
        have hkx : (k : Int) < X.length := by have := HP.out; omega
        have hok := Tm.flt_zero (hAU.ok k (by have := HP.out; omega))
        have hmd := moved_any (X.getD k Tm.z) (some ⟨w.heap.size, 0, none⟩) (p + 1) (p + 1) _ U hU.inr (Tm.kok_mono (by omega) hok.2.2.1)
        have HNX := Lib.hid hU.nx
        have HU := Lib.hid hU
        clear hx hok hAU hU
        generalize X.length = lx at e0 hkx
        generalize X.getD k Tm.z = nd at *
        generalize hmv : Tm.mvd nd _ = md at hmd HNX
        clear hmv
        obtain ⟨op, v, n, a, b, c⟩ := nd
        obtain ⟨op', v', n', a', b', c'⟩ := md
        dsimp only [ndv] at x0 x1 x2 x3 x4 x5 hmd HNX
        have HMD := Lib.hid hmd
        clear hmd
        go_wp2_with fail
        refine HMD.out.mono ?_
        rintro e V2 ⟨rfl, hb2⟩
        have HU2 := Lib.hid (HU.out.below hb2)
        have HRW := Lib.hid (show World.ownsRow (V2.alloc (.cells #[.int .i64 op', .int .i64 v', .int .u64 n', .int .i64 a', .int .i64 b', .int .i64 c'] 38)) (bh + 1) 38 6 (.slice A' ln cap') ln ((Tm.tst X (Tm.hang X p) k).2.flatMap cells6) by
          have := HU2.out.row.alloc (.cells #[.int .i64 op', .int .i64 v', .int .u64 n', .int .i64 a', .int .i64 b', .int .i64 c'] 38)
          rw [HLN.out] at this
          exact this)
        have HNW := Lib.hid (news6 V2 ⟨op', v', n', a', b', c'⟩)
        have HBB := Lib.hid (show bh + 1 ≤ V2.heap.size from HU2.out.fl.lt)
        clear hb2 x0 x1 x2 x3 x4 x5 e0
        obtain ⟨i0, hi0, hz0, hz1, hz2⟩ := info_parts info38
        go_wp2_with (at_builtin
                     refine wpList_apS (w := V2.alloc (.cells #[.int .i64 op', .int .i64 v', .int .u64 n', .int .i64 a', .int .i64 b', .int .i64 c'] 38)) rfl (.tmp 31) (.tmp 41) 22 rfl (bh + 1) 38 i0 _ 6 48 Try.underlying22 hi0 hz0 hz1 hz2 rfl (by omega) (.slice A' ln cap') ln ((Tm.tst X (Tm.hang X p) k).2.flatMap cells6) rfl
                       HRW.out ⟨V2.heap.size, 0, none⟩ 1 1 (cells6 ⟨op', v', n', a', b', c'⟩) rfl rfl HNW.out (one6 _) (by have := HS.out; have := HP.out; simp only [maxLen]; omega) (by have := HS.out; have := HP.out; omega) (by have := HBB.out; simp; omega) (ln + 1) (((Tm.tst X (Tm.hang X p) k).2 ++ [(⟨op', v', n', a', b', c'⟩ : Tm.Nd)]).flatMap cells6) rfl (by simp) ?_
                     intro A2 cap2 V3 hrow hgrow hmv
                     have HR3 := Lib.hid hrow
                     have HG3 := Lib.hid hgrow
                     clear hrow hgrow hmv)
        go_roundw
        case rel =>
          refine ⟨k + 1, A2, cap2, by omega, by go_num, ?_, HU2.out.app HNX.out (by rw [HLN.out]; exact HR3.out) (by rw [HLN.out]; exact HG3.out)⟩
          rw [HNX.out, List.length_append, List.length_singleton, HLN.out]
        case measure => simp [intOf]; omega
      · have hF' : Tm.hang X p k = false := by simpa using hF
        have HT := Lib.hid (hT.no hF')
        have HTN := Lib.hid (Tm.tst_no (X := X) (F := Tm.hang X p) (k := k) hF')
        rw [hF'] at d0
        clear hF hF' hT
        go_wp2
        go_roundw
        case rel => exact ⟨k + 1, A', cap', by omega, by go_num, by rw [HTN.out], HT.out⟩
        case measure => simp [intOf]; omega
    · have hke : k = p + 1 := by omega
      subst hke
      have HT := Lib.hid hT
      clear hT
      go_wp2
      go_ret
      exact ⟨A', cap', rfl, own_base HT.out.row (by omega), HT.out.bel⟩
end Go.Proofs.Ytfehmbcgehflmaa
