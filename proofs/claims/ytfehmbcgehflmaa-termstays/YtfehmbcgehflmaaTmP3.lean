/-
  The contract of the reference's Put.
-/
import Derived.Test.YtfehmbcgehflmaaTmP2
namespace Go.Proofs.Ytfehmbcgehflmaa
set_option linter.unusedSimpArgs false
set_option linter.unusedVariables false
open Go.RowKit Go.Maps

theorem Tm.mk_ok {X : List Tm.Nd} {nd : Tm.Nd} (h : Tm.Ok X X.length) (hf : Tm.flt nd X.length X = 0) : Tm.Ok (Tm.mk X nd).1 (Tm.mk X nd).1.length := by
  by_cases c : nd ∈ X
  · rw [Tm.mk_in c]; exact h
  · rw [Tm.mk_new c hf]; exact h.app hf
theorem Tm.pst_ok {X L : List Tm.Nd} (hX : Tm.Ok X X.length) (hL : Tm.Ok L L.length) : ∀ k, k ≤ L.length → Tm.Ok (Tm.pst X L k).1 (Tm.pst X L k).1.length
  | 0, _ => hX
  | k + 1, hk => Tm.mk_ok (Tm.pst_ok hX hL k (by omega)) (Tm.pst_flt hL (by omega))
/-- Integers of the call's own, beside a list. -/
structure Jm (w : World) (B : Nat) (Al : Option Addr) (n : Nat) (Am : Option Addr) (k cm : Nat) (at' : Nat → Int) : Prop where
  row : w.ownsRow B 3 1 (.slice Am k cm) k ((List.range k).map fun i => Value.int .i64 (at' i))
  ne : 0 < n → ∀ j, oblk Am = some j → oblk Al ≠ some j
theorem Jm.lt {w : World} {B : Nat} {Al : Option Addr} {n : Nat} {Am : Option Addr} {k cm : Nat} {at' : Nat → Int} (h : Jm w B Al n Am k cm at') {j : Nat} (hj : oblk Am = some j) : B ≤ j ∧ j < w.heap.size := by
  rcases h.row.2 with ⟨e, _⟩ | ⟨g', cap', cur, e, hb, hc, _⟩
  · injection e with e1 _ _
    subst e1
    simp [oblk] at hj
  · injection e with e1 _ _
    subst e1
    simp [oblk] at hj
    subst hj
    exact ⟨hb, (Array.getElem?_eq_some_iff.1 hc).1⟩
theorem Jm.inr {w : World} {B : Nat} {Al : Option Addr} {n : Nat} {Am : Option Addr} {k cm : Nat} {at' : Nat → Int} (h : Jm w B Al n Am k cm at') : InR w Am k at' := fun h0 => by
  rcases h.row.2 with ⟨_, h1⟩ | ⟨g', cap', cur, e, hb, hc, _⟩
  · omega
  · have hcell := h.row.cells (g := g')
    injection e with e1 _ _
    subst e1
    have hcell := hcell rfl
    refine ⟨g', 0, rfl, (Array.getElem?_eq_some_iff.1 hc).1, fun i hi => ?_⟩
    have := hcell i (.int .i64 (at' i)) (by simp [hi])
    rw [add_at] at this
    exact this
/-- The loop's relation. -/
structure RpR (w wr : World) (X L : List Tm.Nd) (k : Nat) (Al0 Al : Option Addr) (n cl : Nat) (Am : Option Addr) (cm : Nat) : Prop where
  sl : NdSl wr Al n cl (Tm.pst X L k).1
  jm : Jm wr w.heap.size Al n Am k cm (Tm.pst X L k).2
  bel : Below w.heap.size w wr
  mv : Mv2 w.heap.size Al0 X Al (Tm.pst X L k).1
/-- The reference's Put, its end. -/
def RpP (Al : Option Addr) (n cl : Nat) (X L : List Tm.Nd) (w : World) (e : Ending) (w' : World) : Prop :=
  ((Tm.chk L).1 ≠ 0 ∧ e = .returned (.tuple #[.slice Al n cl, .int .i64 0, .int .i64 (Tm.chk L).1]) ∧ Below w.heap.size w w') ∨
  ((Tm.chk L).1 = 0 ∧ ∃ A' cap', e = .returned (.tuple #[.slice A' (Tm.pst X L L.length).1.length cap', .int .i64 ((Tm.pst X L L.length).2 (L.length - 1)), .int .i64 0]) ∧ NdSl w' A' (Tm.pst X L L.length).1.length cap' (Tm.pst X L L.length).1 ∧ Below w.heap.size w w' ∧ Mv2 w.heap.size Al X A' (Tm.pst X L L.length).1)

set_option maxRecDepth 20000 in
set_option maxHeartbeats 1000000 in
theorem rput_bad (Al : Option Addr) (n cl : Nat) (X : List Tm.Nd) (A0 : Option Addr) (len cap0 : Nat) (L : List Tm.Nd) (w : World) (hx : NdSl w A0 len cap0 L) (hl : len ≤ 65536) (hc : (Tm.chk L).1 ≠ 0) :
    Calls Try.prog 24 #[.slice Al n cl, .slice A0 len cap0] w (RpP Al n cl X L w) := by
  have HC := Lib.hid (rcheck_any A0 len cap0 L w hx.nd hx.hlen hx.u hl)
  have HN := Lib.hid hc
  have hc' : ((Tm.chk L).1 != 0) = true := by simpa using hc
  clear hx hc
  generalize hE : (Tm.chk L).1 = E at *
  have HE := Lib.hid hE
  clear hE
  generalize (Tm.chk L).2 = F at *
  go_enter Try.func24, Try.ntmps24
  go_wp2_with fail
  refine HC.out.mono ?_
  rintro e v ⟨rfl, hb⟩
  have HB := Lib.hid hb
  clear hb
  go_wp2
  go_ret3
  exact .inl ⟨by rw [HE.out]; exact HN.out, by rw [HE.out]; rfl, HB.out⟩

set_option maxRecDepth 100000 in
set_option maxHeartbeats 8000000 in
theorem rput_ok (Al : Option Addr) (n cl : Nat) (X : List Tm.Nd) (A0 : Option Addr) (len cap0 : Nat) (L : List Tm.Nd) (w : World) (hlx : NdSl w Al n cl X) (hXok : Tm.Ok X X.length) (hx : NdSl w A0 len cap0 L) (hl : len ≤ 1000) (hX : X.length ≤ 10000) (hc : (Tm.chk L).1 = 0) :
    Calls Try.prog 24 #[.slice Al n cl, .slice A0 len cap0] w (RpP Al n cl X L w) := by
  have hlen := hx.hlen
  have HC := Lib.hid (rcheck_any A0 len cap0 L w hx.nd hlen hx.u (by omega))
  obtain ⟨h0, hok⟩ := Tm.chk_ok_iff hc
  have HOK := Lib.hid hok
  have HXOK := Lib.hid hXok
  have HCC := Lib.hid hc
  have hcl := hx.nd.hle
  have hcm := hx.nd.hcap
  unfold maxLen at hcm
  have HW := Lib.hid hx.wf
  have HX := Lib.hid hX
  have HLN := Lib.hid hlen
  have HLX := Lib.hid hlx
  have hl0 : 0 < len := by omega
  obtain ⟨bb, oo, rfl, hbb, hmem⟩ := hx.nd.mem hl0
  have HBBW := Lib.hid hbb
  have HMEM := Lib.hid hmem
  clear hbb hmem hok h0 hx hX hlen hXok hlx
  rw [hc] at HC
  clear hc
  generalize (Tm.chk L).2 = F at HC
  go_enter Try.func24, Try.ntmps24
  go_wp2_with fail
  refine HC.out.mono ?_
  rintro e v ⟨rfl, hb⟩
  have HST := Lib.hid (show RpR w v X L 0 Al Al n cl none 0 from ⟨HLX.out.below hb, ⟨World.ownsRow_nil _ _ _ _, fun _ j hj => by simp [oblk] at hj⟩, hb, .inl ⟨rfl, rfl⟩⟩)
  clear hb HC
  go_wp2_with fail
  go_loopw [0, 9, 10] (fun l m t wr => ∃ (k : Nat) (Al' : Option Addr) (n' cl' : Nat) (Am : Option Addr) (cm : Nat), k ≤ len ∧ t = .int .i64 k ∧ l = .slice Al' n' cl' ∧ m = .slice Am k cm ∧ RpR w wr X L k Al Al' n' cl' Am cm) (fun _ _ t _ => len - (intOf t).toNat)
  case atStart => exact ⟨0, Al, n, cl, none, 0, Nat.zero_le _, rfl, rfl, rfl, HST.out⟩
  case round =>
    obtain ⟨k, Al', n', cl', Am, cm, hk, rfl, rfl, rfl, hR⟩ := hrel
    by_cases hlt : k < len
    · obtain ⟨x0, x1, x2, x3, x4, x5⟩ := (HMEM.out k hlt).keep (fun o => hR.bel.cell (p := ⟨bb, o, none⟩) HBBW.out)
      have hk1 : (k : Int) < len := by omega
      have hk0 : (0 : Int) ≤ k := by omega
      have hkL : k < L.length := by rw [HLN.out]; exact hlt
      have hf0 := HOK.out k hkL
      have hkok := (Tm.flt_zero hf0).2.2.1
      have HWF := Lib.hid (Tm.pst_wf (X := X) (by have := HX.out; omega) (by rw [HLN.out]; omega) HOK.out HW.out hkL)
      have hfm := Tm.pst_flt (X := X) HOK.out hkL
      have hmd := Tm.mk_made hfm
      have hpl := (Tm.pst_all (X := X) HOK.out k (by rw [HLN.out]; omega)).2.2
      have hpo := Tm.pst_ok (X := X) HXOK.out HOK.out k (by rw [HLN.out]; omega)
      have HPL := Lib.hid hpl
      have HPO := Lib.hid hpo
      have HR := Lib.hid hR
      have HMV := Lib.hid (told_any (L.getD k Tm.z) Am k cm (Tm.pst X L k).2 wr hR.jm.inr hkok)
      have HP1 := Lib.hid (show (Tm.pst X L (k + 1)).1 = (Tm.mk (Tm.pst X L k).1 (Tm.mvd (L.getD k Tm.z) (Tm.pst X L k).2)).1 from rfl)
      have HP2 := Lib.hid (show (Tm.pst X L (k + 1)).2 k = (Tm.mk (Tm.pst X L k).1 (Tm.mvd (L.getD k Tm.z) (Tm.pst X L k).2)).2.1 by simp [Tm.pst])
      have HP3 := Lib.hid (show ∀ i, i < k → (Tm.pst X L (k + 1)).2 i = (Tm.pst X L k).2 i from fun i hi => by simp only [Tm.pst]; rw [if_neg (by omega)])
      have HE0 := Lib.hid hmd.1
      clear hf0 hkok hfm hmd hpl hpo hR
      generalize hmv : Tm.mvd (L.getD k Tm.z) (Tm.pst X L k).2 = md at *
      clear hmv
      generalize L.getD k Tm.z = nd at *
      obtain ⟨op, v', n9, a, b, c⟩ := nd
      obtain ⟨op', v1, n8, a', b', c'⟩ := md
      dsimp only [ndv] at *
      go_wp2_with fail
      refine HMV.out.mono ?_
      rintro e V1 ⟨rfl, hb1⟩
      have hsl1 := HR.out.sl.below hb1
      have HRW1 := Lib.hid (own_below HR.out.jm.row hb1)
      have HB1 := Lib.hid (HR.out.bel.trans (hb1.mono HR.out.bel.size))
      have HMK := Lib.hid (rmake_any Al' n' cl' (Tm.pst X L k).1 ⟨op', v1, n8, a', b', c'⟩ V1 hsl1 HWF.out HPO.out (by have := HPL.out; have := HX.out; have := hsl1.hlen; omega))
      have HSL1 := Lib.hid hsl1
      have HJ1 := Lib.hid (show Jm V1 w.heap.size Al' n' Am k cm (Tm.pst X L k).2 from ⟨HRW1.out, HR.out.jm.ne⟩)
      clear hb1 hsl1 HMV x0 x1 x2 x3 x4 x5
      dsimp only [ndv] at HMK
      go_wp2_with fail
      refine HMK.out.mono ?_
      rintro e V2 ⟨A2, cap2, rfl, hsl2, hb2, hmv2⟩
      rw [HE0.out, ← HP2.out]
      rw [← HP1.out] at hsl2 hmv2 ⊢
      have hJ2 : Jm V2 w.heap.size A2 (Tm.pst X L (k + 1)).1.length Am k cm (Tm.pst X L k).2 := ⟨own_below HJ1.out.row hb2, fun h0 j hj => by
        rcases hmv2 with ⟨e1, e2⟩ | ⟨i, hi, e1⟩
        · rw [e1]
          exact HJ1.out.ne (by have := HSL1.out.hlen; rw [e2] at h0; omega) j hj
        · rw [e1]
          intro e2
          injection e2 with e2
          have := (HJ1.out.lt hj).2
          omega⟩
      have HJ2 := Lib.hid hJ2
      have HSL2 := Lib.hid hsl2
      have HB2 := Lib.hid (HB1.out.trans (hb2.mono HB1.out.size))
      have HMV2 := Lib.hid (show Mv2 w.heap.size Al X A2 (Tm.pst X L (k + 1)).1 by
        rcases hmv2 with ⟨e1, e2⟩ | ⟨i, hi, e1⟩
        · rw [e1, e2]; exact HR.out.mv
        · exact .inr ⟨i, Nat.le_trans HB1.out.size hi, e1⟩)
      clear hsl2 hb2 hmv2 hJ2 HMK
      generalize hpp : (Tm.pst X L (k + 1)).2 k = PP at *
      have HPP := Lib.hid hpp
      clear hpp
      have HRW := Lib.hid (HJ2.out.row.alloc (.cells #[.int .i64 PP] 3))
      have HB0 := Lib.hid (Nat.le_trans HB2.out.size (Below.box V2 (.cells #[.int .i64 PP] 3)).size)
      obtain ⟨i0, hi0, hz0, hz1, hz2⟩ := info_parts i_info
      go_wp2_with (at_builtin
                   refine wpList_apS (w := V2.alloc (.cells #[.int .i64 PP] 3)) rfl (.tmp 46) (.tmp 48) 67 rfl w.heap.size 3 i0 _ 1 8 Try.underlying67 hi0 hz0 hz1 hz2 rfl (by omega) (.slice Am k cm) k _ rfl
                     HRW.out ⟨V2.heap.size, 0, none⟩ 1 1 [.int .i64 PP] rfl rfl (fun j u hu => by
                       rcases j with _ | j
                       · rw [add_at, Nat.zero_add, World.cell?_alloc_new]; exact hu
                       · simp at hu) (fun u hu => by rw [List.mem_singleton.1 hu]; rfl) (by simp only [maxLen]; omega) (by omega) HB0.out (k + 1) _ rfl rfl ?_
                   intro Am2 cm2 V3 hrow hgrow hmv3
                   have HR3 := Lib.hid hrow
                   have HG3 := Lib.hid hgrow
                   have HM3 := Lib.hid hmv3
                   clear hrow hgrow hmv3)
      go_roundw
      case rel =>
        have hgr : V2.grownBy V3 (oblk Am) := by
          have h1 := HG3.out
          rw [own_is] at h1
          exact (World.grownBy_alloc V2 _ _).trans h1
        have hm3 := HM3.out
        rw [own_is] at hm3
        refine ⟨k + 1, A2, _, cap2, Am2, cm2, by omega, by go_num, rfl, rfl, ⟨⟨HSL2.out.hlen, HSL2.out.nd.keep hgr.size (fun h0 j hj hjl => hgr.block j hjl (fun e => ?_)), HSL2.out.wf⟩, ⟨?_, fun h0 j hj => ?_⟩, ?_, HMV2.out⟩⟩
        · exact HJ2.out.ne h0 j e.symm hj
        · have e : ((List.range (k + 1)).map fun i => Value.int .i64 ((Tm.pst X L (k + 1)).2 i)) = ((List.range k).map fun i => Value.int .i64 ((Tm.pst X L k).2 i)) ++ [.int .i64 PP] := by
            rw [List.range_succ, List.map_append, List.map_singleton, HPP.out]
            congr 1
            apply List.map_congr_left
            intro i hi
            rw [HP3.out i (by simpa using hi)]
          rw [e]
          exact HR3.out
        · rcases hm3 with e | e
          · exact HJ2.out.ne h0 j (e ▸ hj)
          · rw [e] at hj
            injection hj with hj
            intro e2
            have := HSL2.out.nd.lt h0 e2
            have hs : (V2.alloc (.cells #[.int .i64 PP] 3)).heap.size = V2.heap.size + 1 := by simp
            omega
        · exact HB2.out.trans ((Below.refl _ _).grown hgr HB2.out.size (fun j hj => (HJ2.out.lt hj).1))
      case measure => simp [intOf]; omega
    · have hke : k = len := by omega
      subst hke
      have HR := Lib.hid hR
      obtain ⟨b1, o1, rfl, hb1, hi⟩ := hR.jm.inr hl0
      have c0 := hi (k - 1) (by omega)
      have hk1 : (k : Int) - 1 < k := by omega
      have hk2 : (0 : Int) ≤ (k : Int) - 1 := by omega
      have hk3 : ((k : Int) - 1).toNat = k - 1 := by omega
      have hk4 : IntKind.i64.wrap ((k : Int) - 1) = (k : Int) - 1 := by rw [IntKind.wrap_i64]; omega
      have HRT := Lib.hid (show (Tm.pst X L k).2 (k - 1) = (Tm.pst X L L.length).2 (L.length - 1) by rw [HLN.out])
      clear hR hi
      generalize (Tm.pst X L k).2 (k - 1) = RT at HRT c0
      go_wp2_with fail
      go_quiet (fail)
      go_wp2
      go_ret3
      have hn := HR.out.sl.hlen
      refine .inr ⟨HCC.out, Al', cl', ?_, ?_, below_drewN HR.out.bel _, ?_⟩
      · rw [← HRT.out, HLN.out, hn]; rfl
      · rw [HLN.out, hn]; exact HR.out.sl.below (below_drewN (Below.refl _ _) _)
      · rw [HLN.out]; exact HR.out.mv

/-- What Put leaves, and where the root stands. -/
def Tm.putL (X L : List Tm.Nd) : List Tm.Nd := if (Tm.chk L).1 = 0 then (Tm.pst X L L.length).1 else X
def Tm.putR (X L : List Tm.Nd) : Int := if (Tm.chk L).1 = 0 then (Tm.pst X L L.length).2 (L.length - 1) else 0
def PaP (g bm : Nat) (A : Option Addr) (X : List Tm.Nd) (q : Nat) (L : List Tm.Nd) (w : World) (e : Ending) (w' : World) : Prop :=
  ∃ A' cap' q', e = .returned (.tuple #[.int .i64 (Tm.putR X L), .int .i64 (Tm.chk L).1]) ∧ Ar w' g bm A' cap' (Tm.putL X L) q' ∧ q' ≤ q + L.length ∧ Fr g (some bm) (oblk A) w w' ∧ Moves w.heap.size (oblk A) (oblk A')
theorem put_any (g bm : Nat) (A : Option Addr) (cap : Nat) (X : List Tm.Nd) (q : Nat) (A0 : Option Addr) (len cap0 : Nat) (L : List Tm.Nd) (w : World) (h : Ar w g bm A cap X q) (hx : Bs w g bm A A0 len cap0 L) (hl : len ≤ 1000) (hX : X.length ≤ 10000) (hq : q ≤ 1000000) :
    Calls Try.prog 23 #[.pointer (some ⟨g, 0, none⟩), .slice A0 len cap0] w (PaP g bm A X q L w) := by
  by_cases hc : (Tm.chk L).1 = 0
  · refine (put_ok g bm A cap X q A0 len cap0 L w h hx hl hX hq hc).mono fun e w' hp => ?_
    rcases hp with ⟨hn, _⟩ | ⟨_, A', cap', he, har, hf, hv⟩
    · exact absurd hc hn
    · exact ⟨A', cap', _, by rw [Tm.putR, if_pos hc, hc]; exact he, by rw [Tm.putL, if_pos hc]; exact har, Nat.le_refl _, hf, hv⟩
  · refine (put_bad g bm A X q A0 len cap0 L w hx.sl (by omega) hc).mono fun e w' hp => ?_
    rcases hp with ⟨_, he, hb⟩ | ⟨hn, _⟩
    · exact ⟨A, cap, q, by rw [Tm.putR, if_neg hc]; exact he, by rw [Tm.putL, if_neg hc]; exact h.below hb, by omega, Fr.of_below hb, Moves.refl _ _⟩
    · exact absurd hn hc
def RaP (Al : Option Addr) (X L : List Tm.Nd) (w : World) (e : Ending) (w' : World) : Prop :=
  ∃ A' cap', e = .returned (.tuple #[.slice A' (Tm.putL X L).length cap', .int .i64 (Tm.putR X L), .int .i64 (Tm.chk L).1]) ∧ NdSl w' A' (Tm.putL X L).length cap' (Tm.putL X L) ∧ Below w.heap.size w w' ∧ Mv2 w.heap.size Al X A' (Tm.putL X L)
theorem rput_any (Al : Option Addr) (n cl : Nat) (X : List Tm.Nd) (A0 : Option Addr) (len cap0 : Nat) (L : List Tm.Nd) (w : World) (hlx : NdSl w Al n cl X) (hXok : Tm.Ok X X.length) (hx : NdSl w A0 len cap0 L) (hl : len ≤ 1000) (hX : X.length ≤ 10000) :
    Calls Try.prog 24 #[.slice Al n cl, .slice A0 len cap0] w (RaP Al X L w) := by
  by_cases hc : (Tm.chk L).1 = 0
  · refine (rput_ok Al n cl X A0 len cap0 L w hlx hXok hx hl hX hc).mono fun e w' hp => ?_
    rcases hp with ⟨hn, _⟩ | ⟨_, A', cap', he, hs, hb, hv⟩
    · exact absurd hc hn
    · exact ⟨A', cap', by rw [Tm.putR, Tm.putL, if_pos hc, if_pos hc, hc]; exact he, by rw [Tm.putL, if_pos hc]; exact hs, hb, by rw [Tm.putL, if_pos hc]; exact hv⟩
  · refine (rput_bad Al n cl X A0 len cap0 L w hx (by omega) hc).mono fun e w' hp => ?_
    rcases hp with ⟨_, he, hb⟩ | ⟨hn, _⟩
    · exact ⟨Al, cl, by rw [Tm.putR, Tm.putL, if_neg hc, if_neg hc, hlx.hlen]; exact he, by rw [Tm.putL, if_neg hc, hlx.hlen]; exact hlx.below hb, hb, by rw [Tm.putL, if_neg hc]; exact .inl ⟨rfl, rfl⟩⟩
    · exact absurd hn hc
theorem Tm.putL_pre (X L : List Tm.Nd) : X <+: Tm.putL X L ∧ (Tm.putL X L).length ≤ X.length + L.length := by
  unfold Tm.putL
  split
  · rename_i hc
    have := Tm.pst_all (X := X) (Tm.chk_ok_iff hc).2 L.length (Nat.le_refl _)
    exact ⟨this.2.1, this.2.2⟩
  · exact ⟨List.prefix_refl X, by omega⟩
theorem Tm.putR_at {X L : List Tm.Nd} (hc : (Tm.chk L).1 = 0) : ∃ i : Nat, Tm.putR X L = (i : Int) ∧ i < (Tm.putL X L).length := by
  obtain ⟨h0, hok⟩ := Tm.chk_ok_iff hc
  obtain ⟨i, e, hi, _⟩ := (Tm.pst_all (X := X) hok L.length (Nat.le_refl _)).1 (L.length - 1) (by omega)
  rw [Tm.putR, Tm.putL, if_pos hc, if_pos hc]
  exact ⟨i, e, hi⟩
end Go.Proofs.Ytfehmbcgehflmaa
