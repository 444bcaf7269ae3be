/-
  The contract of the reference's Put.
  What was put stays: put again it is found; terms hang on what stands ahead alone.
  The walk of the law on lists that are put.
  A term told anew: what is in it, in which order, and how it is used.
  A term told anew, put again: into the arena it came from, and into an empty one.
-/
import Derived.Test.YtdbcpnpcnkccaaaMM
set_option linter.unusedSimpArgs false
set_option linter.unusedVariables false
namespace Go.Proofs.Ytdbcpnpcnkccaaa
set_option maxRecDepth 100000
open Go.RowKit Go.Maps

theorem Tm.mk_ok {X : List Tm.Nd} {nd : Tm.Nd} (h : Tm.Ok X X.length) (hf : Tm.flt nd X.length X = 0) : Tm.Ok (Tm.mk X nd).1 (Tm.mk X nd).1.length := by
  by_cases c : nd ∈ X
  · rw [Tm.mk_in c]; exact h
  · rw [Tm.mk_new c hf]; exact h.app hf
theorem Tm.pst_ok {X L : List Tm.Nd} (hX : Tm.Ok X X.length) (hL : Tm.Ok L L.length) : ∀ k, k ≤ L.length → Tm.Ok (Tm.pst X L k).1 (Tm.pst X L k).1.length
  | 0, _ => hX
  | k + 1, hk => Tm.mk_ok (Tm.pst_ok hX hL k (by omega)) (Tm.pst_flt hL (by omega))
/-- Integers of the call's own, beside a list. -/
structure Jm (w : World) (B : Nat) (Al : Option Addr) (n : Nat) (Am : Option Addr) (k cm : Nat) (at' : Nat → Int) : Prop where
  row : w.ownsRow B 3 1 (.slice Am k cm) k ((List.range k).map fun i => Value.int .i64 (at' i))
  ne : 0 < n → ∀ j, oblk Am = some j → oblk Al ≠ some j
theorem Jm.lt {w : World} {B : Nat} {Al : Option Addr} {n : Nat} {Am : Option Addr} {k cm : Nat} {at' : Nat → Int} (h : Jm w B Al n Am k cm at') {j : Nat} (hj : oblk Am = some j) : B ≤ j ∧ j < w.heap.size := by
  rcases h.row.2 with ⟨e, _⟩ | ⟨g', cap', cur, e, hb, hc, _⟩
  · injection e with e1 _ _
    subst e1
    simp [oblk] at hj
  · injection e with e1 _ _
    subst e1
    simp [oblk] at hj
    subst hj
    exact ⟨hb, (Array.getElem?_eq_some_iff.1 hc).1⟩
theorem Jm.inr {w : World} {B : Nat} {Al : Option Addr} {n : Nat} {Am : Option Addr} {k cm : Nat} {at' : Nat → Int} (h : Jm w B Al n Am k cm at') : InR w Am k at' := fun h0 => by
  rcases h.row.2 with ⟨_, h1⟩ | ⟨g', cap', cur, e, hb, hc, _⟩
  · omega
  · have hcell := h.row.cells (g := g')
    injection e with e1 _ _
    subst e1
    have hcell := hcell rfl
    refine ⟨g', 0, rfl, (Array.getElem?_eq_some_iff.1 hc).1, fun i hi => ?_⟩
    have := hcell i (.int .i64 (at' i)) (by simp [hi])
    rw [add_at] at this
    exact this
/-- The loop's relation. -/
structure RpR (w wr : World) (X L : List Tm.Nd) (k : Nat) (Al0 Al : Option Addr) (n cl : Nat) (Am : Option Addr) (cm : Nat) : Prop where
  sl : NdSl wr Al n cl (Tm.pst X L k).1
  jm : Jm wr w.heap.size Al n Am k cm (Tm.pst X L k).2
  bel : Below w.heap.size w wr
  mv : Mv2 w.heap.size Al0 X Al (Tm.pst X L k).1
/-- The reference's Put, its end. -/
def RpP (Al : Option Addr) (n cl : Nat) (X L : List Tm.Nd) (w : World) (e : Ending) (w' : World) : Prop :=
  ((Tm.chk L).1 ≠ 0 ∧ e = .returned (.tuple #[.slice Al n cl, .int .i64 0, .int .i64 (Tm.chk L).1]) ∧ Below w.heap.size w w') ∨
  ((Tm.chk L).1 = 0 ∧ ∃ A' cap', e = .returned (.tuple #[.slice A' (Tm.pst X L L.length).1.length cap', .int .i64 ((Tm.pst X L L.length).2 (L.length - 1)), .int .i64 0]) ∧ NdSl w' A' (Tm.pst X L L.length).1.length cap' (Tm.pst X L L.length).1 ∧ Below w.heap.size w w' ∧ Mv2 w.heap.size Al X A' (Tm.pst X L L.length).1)

set_option maxRecDepth 20000 in
set_option maxHeartbeats 1000000 in
theorem rput_bad (Al : Option Addr) (n cl : Nat) (X : List Tm.Nd) (A0 : Option Addr) (len cap0 : Nat) (L : List Tm.Nd) (w : World) (hx : NdSl w A0 len cap0 L) (hl : len ≤ 65536) (hc : (Tm.chk L).1 ≠ 0) :
    Calls Try.prog 38 #[.slice Al n cl, .slice A0 len cap0] w (RpP Al n cl X L w) := by
  have HC := Lib.hid (rcheck_any A0 len cap0 L w hx.nd hx.hlen hx.u hl)
  have HN := Lib.hid hc
  have hc' : ((Tm.chk L).1 != 0) = true := by simpa using hc
  clear hx hc
  generalize hE : (Tm.chk L).1 = E at *
  have HE := Lib.hid hE
  clear hE
  generalize (Tm.chk L).2 = F at *
  go_enter Try.func38, Try.ntmps38
  go_wp2_with fail
  refine HC.out.mono ?_
  rintro e v ⟨rfl, hb⟩
  have HB := Lib.hid hb
  clear hb
  go_wp2
  go_ret3
  exact .inl ⟨by rw [HE.out]; exact HN.out, by rw [HE.out]; rfl, HB.out⟩

set_option maxRecDepth 100000 in
set_option maxHeartbeats 8000000 in
theorem rput_ok (Al : Option Addr) (n cl : Nat) (X : List Tm.Nd) (A0 : Option Addr) (len cap0 : Nat) (L : List Tm.Nd) (w : World) (hlx : NdSl w Al n cl X) (hXok : Tm.Ok X X.length) (hx : NdSl w A0 len cap0 L) (hl : len ≤ 1000) (hX : X.length ≤ 10000) (hc : (Tm.chk L).1 = 0) :
    Calls Try.prog 38 #[.slice Al n cl, .slice A0 len cap0] w (RpP Al n cl X L w) := by
  have hlen := hx.hlen
  have HC := Lib.hid (rcheck_any A0 len cap0 L w hx.nd hlen hx.u (by omega))
  obtain ⟨h0, hok⟩ := Tm.chk_ok_iff hc
  have HOK := Lib.hid hok
  have HXOK := Lib.hid hXok
  have HCC := Lib.hid hc
  have hcl := hx.nd.hle
  have hcm := hx.nd.hcap
  unfold maxLen at hcm
  have HW := Lib.hid hx.wf
  have HX := Lib.hid hX
  have HLN := Lib.hid hlen
  have HLX := Lib.hid hlx
  have hl0 : 0 < len := by omega
  obtain ⟨bb, oo, rfl, hbb, hmem⟩ := hx.nd.mem hl0
  have HBBW := Lib.hid hbb
  have HMEM := Lib.hid hmem
  clear hbb hmem hok h0 hx hX hlen hXok hlx
  rw [hc] at HC
  clear hc
  generalize (Tm.chk L).2 = F at HC
  go_enter Try.func38, Try.ntmps38
  go_wp2_with fail
  refine HC.out.mono ?_
  rintro e v ⟨rfl, hb⟩
  have HST := Lib.hid (show RpR w v X L 0 Al Al n cl none 0 from ⟨HLX.out.below hb, ⟨World.ownsRow_nil _ _ _ _, fun _ j hj => by simp [oblk] at hj⟩, hb, .inl ⟨rfl, rfl⟩⟩)
  clear hb HC
  go_wp2_with fail
  go_loopw [0, 9, 10] (fun l m t wr => ∃ (k : Nat) (Al' : Option Addr) (n' cl' : Nat) (Am : Option Addr) (cm : Nat), k ≤ len ∧ t = .int .i64 k ∧ l = .slice Al' n' cl' ∧ m = .slice Am k cm ∧ RpR w wr X L k Al Al' n' cl' Am cm) (fun _ _ t _ => len - (intOf t).toNat)
  case atStart => exact ⟨0, Al, n, cl, none, 0, Nat.zero_le _, rfl, rfl, rfl, HST.out⟩
  case round =>
    obtain ⟨k, Al', n', cl', Am, cm, hk, rfl, rfl, rfl, hR⟩ := hrel
    by_cases hlt : k < len
    · obtain ⟨x0, x1, x2, x3, x4, x5⟩ := (HMEM.out k hlt).keep (fun o => hR.bel.cell (p := ⟨bb, o, none⟩) HBBW.out)
      have hk1 : (k : Int) < len := by omega
      have hk0 : (0 : Int) ≤ k := by omega
      have hkL : k < L.length := by rw [HLN.out]; exact hlt
      have hf0 := HOK.out k hkL
      have hkok := (Tm.flt_zero hf0).2.2.1
      have HWF := Lib.hid (Tm.pst_wf (X := X) (by have := HX.out; omega) (by rw [HLN.out]; omega) HOK.out HW.out hkL)
      have hfm := Tm.pst_flt (X := X) HOK.out hkL
      have hmd := Tm.mk_made hfm
      have hpl := (Tm.pst_all (X := X) HOK.out k (by rw [HLN.out]; omega)).2.2
      have hpo := Tm.pst_ok (X := X) HXOK.out HOK.out k (by rw [HLN.out]; omega)
      have HPL := Lib.hid hpl
      have HPO := Lib.hid hpo
      have HR := Lib.hid hR
      have HMV := Lib.hid (told_any (L.getD k Tm.z) Am k cm (Tm.pst X L k).2 wr hR.jm.inr hkok)
      have HP1 := Lib.hid (show (Tm.pst X L (k + 1)).1 = (Tm.mk (Tm.pst X L k).1 (Tm.mvd (L.getD k Tm.z) (Tm.pst X L k).2)).1 from rfl)
      have HP2 := Lib.hid (show (Tm.pst X L (k + 1)).2 k = (Tm.mk (Tm.pst X L k).1 (Tm.mvd (L.getD k Tm.z) (Tm.pst X L k).2)).2.1 by simp [Tm.pst])
      have HP3 := Lib.hid (show ∀ i, i < k → (Tm.pst X L (k + 1)).2 i = (Tm.pst X L k).2 i from fun i hi => by simp only [Tm.pst]; rw [if_neg (by omega)])
      have HE0 := Lib.hid hmd.1
      clear hf0 hkok hfm hmd hpl hpo hR
      generalize hmv : Tm.mvd (L.getD k Tm.z) (Tm.pst X L k).2 = md at *
      clear hmv
      generalize L.getD k Tm.z = nd at *
      obtain ⟨op, v', n9, a, b, c⟩ := nd
      obtain ⟨op', v1, n8, a', b', c'⟩ := md
      dsimp only [ndv] at *
      go_wp2_with fail
      refine HMV.out.mono ?_
      rintro e V1 ⟨rfl, hb1⟩
      have hsl1 := HR.out.sl.below hb1
      have HRW1 := Lib.hid (own_below HR.out.jm.row hb1)
      have HB1 := Lib.hid (HR.out.bel.trans (hb1.mono HR.out.bel.size))
      have HMK := Lib.hid (rmake_any Al' n' cl' (Tm.pst X L k).1 ⟨op', v1, n8, a', b', c'⟩ V1 hsl1 HWF.out HPO.out (by have := HPL.out; have := HX.out; have := hsl1.hlen; omega))
      have HSL1 := Lib.hid hsl1
      have HJ1 := Lib.hid (show Jm V1 w.heap.size Al' n' Am k cm (Tm.pst X L k).2 from ⟨HRW1.out, HR.out.jm.ne⟩)
      clear hb1 hsl1 HMV x0 x1 x2 x3 x4 x5
      dsimp only [ndv] at HMK
      go_wp2_with fail
      refine HMK.out.mono ?_
      rintro e V2 ⟨A2, cap2, rfl, hsl2, hb2, hmv2⟩
      rw [HE0.out, ← HP2.out]
      rw [← HP1.out] at hsl2 hmv2 ⊢
      have hJ2 : Jm V2 w.heap.size A2 (Tm.pst X L (k + 1)).1.length Am k cm (Tm.pst X L k).2 := ⟨own_below HJ1.out.row hb2, fun h0 j hj => by
        rcases hmv2 with ⟨e1, e2⟩ | ⟨i, hi, e1⟩
        · rw [e1]
          exact HJ1.out.ne (by have := HSL1.out.hlen; rw [e2] at h0; omega) j hj
        · rw [e1]
          intro e2
          injection e2 with e2
          have := (HJ1.out.lt hj).2
          omega⟩
      have HJ2 := Lib.hid hJ2
      have HSL2 := Lib.hid hsl2
      have HB2 := Lib.hid (HB1.out.trans (hb2.mono HB1.out.size))
      have HMV2 := Lib.hid (show Mv2 w.heap.size Al X A2 (Tm.pst X L (k + 1)).1 by
        rcases hmv2 with ⟨e1, e2⟩ | ⟨i, hi, e1⟩
        · rw [e1, e2]; exact HR.out.mv
        · exact .inr ⟨i, Nat.le_trans HB1.out.size hi, e1⟩)
      clear hsl2 hb2 hmv2 hJ2 HMK
      generalize hpp : (Tm.pst X L (k + 1)).2 k = PP at *
      have HPP := Lib.hid hpp
      clear hpp
      have HRW := Lib.hid (HJ2.out.row.alloc (.cells #[.int .i64 PP] 3))
      have HB0 := Lib.hid (Nat.le_trans HB2.out.size (Below.box V2 (.cells #[.int .i64 PP] 3)).size)
      obtain ⟨i0, hi0, hz0, hz1, hz2⟩ := info_parts i_info
      go_wp2_with (at_builtin
                   refine wpList_apS (w := V2.alloc (.cells #[.int .i64 PP] 3)) rfl (.tmp 46) (.tmp 48) 93 rfl w.heap.size 3 i0 _ 1 8 Try.underlying93 hi0 hz0 hz1 hz2 rfl (by omega) (.slice Am k cm) k _ rfl
                     HRW.out ⟨V2.heap.size, 0, none⟩ 1 1 [.int .i64 PP] rfl rfl (fun j u hu => by
                       rcases j with _ | j
                       · rw [add_at, Nat.zero_add, World.cell?_alloc_new]; exact hu
                       · simp at hu) (fun u hu => by rw [List.mem_singleton.1 hu]; rfl) (by simp only [maxLen]; omega) (by omega) HB0.out (k + 1) _ rfl rfl ?_
                   intro Am2 cm2 V3 hrow hgrow hmv3
                   have HR3 := Lib.hid hrow
                   have HG3 := Lib.hid hgrow
                   have HM3 := Lib.hid hmv3
                   clear hrow hgrow hmv3)
      go_roundw
      case rel =>
        have hgr : V2.grownBy V3 (oblk Am) := by
          have h1 := HG3.out
          rw [own_is] at h1
          exact (World.grownBy_alloc V2 _ _).trans h1
        have hm3 := HM3.out
        rw [own_is] at hm3
        refine ⟨k + 1, A2, _, cap2, Am2, cm2, by omega, by go_num, rfl, rfl, ⟨⟨HSL2.out.hlen, HSL2.out.nd.keep hgr.size (fun h0 j hj hjl => hgr.block j hjl (fun e => ?_)), HSL2.out.wf⟩, ⟨?_, fun h0 j hj => ?_⟩, ?_, HMV2.out⟩⟩
        · exact HJ2.out.ne h0 j e.symm hj
        · have e : ((List.range (k + 1)).map fun i => Value.int .i64 ((Tm.pst X L (k + 1)).2 i)) = ((List.range k).map fun i => Value.int .i64 ((Tm.pst X L k).2 i)) ++ [.int .i64 PP] := by
            rw [List.range_succ, List.map_append, List.map_singleton, HPP.out]
            congr 1
            apply List.map_congr_left
            intro i hi
            rw [HP3.out i (by simpa using hi)]
          rw [e]
          exact HR3.out
        · rcases hm3 with e | e
          · exact HJ2.out.ne h0 j (e ▸ hj)
          · rw [e] at hj
            injection hj with hj
            intro e2
            have := HSL2.out.nd.lt h0 e2
            have hs : (V2.alloc (.cells #[.int .i64 PP] 3)).heap.size = V2.heap.size + 1 := by simp
            omega
        · exact HB2.out.trans ((Below.refl _ _).grown hgr HB2.out.size (fun j hj => (HJ2.out.lt hj).1))
      case measure => simp [intOf]; omega
    · have hke : k = len := by omega
      subst hke
      have HR := Lib.hid hR
      obtain ⟨b1, o1, rfl, hb1, hi⟩ := hR.jm.inr hl0
      have c0 := hi (k - 1) (by omega)
      have hk1 : (k : Int) - 1 < k := by omega
      have hk2 : (0 : Int) ≤ (k : Int) - 1 := by omega
      have hk3 : ((k : Int) - 1).toNat = k - 1 := by omega
      have hk4 : IntKind.i64.wrap ((k : Int) - 1) = (k : Int) - 1 := by rw [IntKind.wrap_i64]; omega
      have HRT := Lib.hid (show (Tm.pst X L k).2 (k - 1) = (Tm.pst X L L.length).2 (L.length - 1) by rw [HLN.out])
      clear hR hi
      generalize (Tm.pst X L k).2 (k - 1) = RT at HRT c0
      go_wp2_with fail
      go_quiet (fail)
      go_wp2
      go_ret3
      have hn := HR.out.sl.hlen
      refine .inr ⟨HCC.out, Al', cl', ?_, ?_, below_drewN HR.out.bel _, ?_⟩
      · rw [← HRT.out, HLN.out, hn]; rfl
      · rw [HLN.out, hn]; exact HR.out.sl.below (below_drewN (Below.refl _ _) _)
      · rw [HLN.out]; exact HR.out.mv

/-- What Put leaves, and where the root stands. -/
def Tm.putL (X L : List Tm.Nd) : List Tm.Nd := if (Tm.chk L).1 = 0 then (Tm.pst X L L.length).1 else X
def Tm.putR (X L : List Tm.Nd) : Int := if (Tm.chk L).1 = 0 then (Tm.pst X L L.length).2 (L.length - 1) else 0
def PaP (g bm : Nat) (A : Option Addr) (X : List Tm.Nd) (q : Nat) (L : List Tm.Nd) (w : World) (e : Ending) (w' : World) : Prop :=
  ∃ A' cap' q', e = .returned (.tuple #[.int .i64 (Tm.putR X L), .int .i64 (Tm.chk L).1]) ∧ Ar w' g bm A' cap' (Tm.putL X L) q' ∧ q' ≤ q + L.length ∧ Fr g (some bm) (oblk A) w w' ∧ Moves w.heap.size (oblk A) (oblk A')
theorem put_any (g bm : Nat) (A : Option Addr) (cap : Nat) (X : List Tm.Nd) (q : Nat) (A0 : Option Addr) (len cap0 : Nat) (L : List Tm.Nd) (w : World) (h : Ar w g bm A cap X q) (hx : Bs w g bm A A0 len cap0 L) (hl : len ≤ 1000) (hX : X.length ≤ 10000) (hq : q ≤ 1000000) :
    Calls Try.prog 16 #[.pointer (some ⟨g, 0, none⟩), .slice A0 len cap0] w (PaP g bm A X q L w) := by
  by_cases hc : (Tm.chk L).1 = 0
  · refine (put_ok g bm A cap X q A0 len cap0 L w h hx hl hX hq hc).mono fun e w' hp => ?_
    rcases hp with ⟨hn, _⟩ | ⟨_, A', cap', he, har, hf, hv⟩
    · exact absurd hc hn
    · exact ⟨A', cap', _, by rw [Tm.putR, if_pos hc, hc]; exact he, by rw [Tm.putL, if_pos hc]; exact har, Nat.le_refl _, hf, hv⟩
  · refine (put_bad g bm A X q A0 len cap0 L w hx.sl (by omega) hc).mono fun e w' hp => ?_
    rcases hp with ⟨_, he, hb⟩ | ⟨hn, _⟩
    · exact ⟨A, cap, q, by rw [Tm.putR, if_neg hc]; exact he, by rw [Tm.putL, if_neg hc]; exact h.below hb, by omega, Fr.of_below hb, Moves.refl _ _⟩
    · exact absurd hn hc
def RaP (Al : Option Addr) (X L : List Tm.Nd) (w : World) (e : Ending) (w' : World) : Prop :=
  ∃ A' cap', e = .returned (.tuple #[.slice A' (Tm.putL X L).length cap', .int .i64 (Tm.putR X L), .int .i64 (Tm.chk L).1]) ∧ NdSl w' A' (Tm.putL X L).length cap' (Tm.putL X L) ∧ Below w.heap.size w w' ∧ Mv2 w.heap.size Al X A' (Tm.putL X L)
theorem rput_any (Al : Option Addr) (n cl : Nat) (X : List Tm.Nd) (A0 : Option Addr) (len cap0 : Nat) (L : List Tm.Nd) (w : World) (hlx : NdSl w Al n cl X) (hXok : Tm.Ok X X.length) (hx : NdSl w A0 len cap0 L) (hl : len ≤ 1000) (hX : X.length ≤ 10000) :
    Calls Try.prog 38 #[.slice Al n cl, .slice A0 len cap0] w (RaP Al X L w) := by
  by_cases hc : (Tm.chk L).1 = 0
  · refine (rput_ok Al n cl X A0 len cap0 L w hlx hXok hx hl hX hc).mono fun e w' hp => ?_
    rcases hp with ⟨hn, _⟩ | ⟨_, A', cap', he, hs, hb, hv⟩
    · exact absurd hc hn
    · exact ⟨A', cap', by rw [Tm.putR, Tm.putL, if_pos hc, if_pos hc, hc]; exact he, by rw [Tm.putL, if_pos hc]; exact hs, hb, by rw [Tm.putL, if_pos hc]; exact hv⟩
  · refine (rput_bad Al n cl X A0 len cap0 L w hx (by omega) hc).mono fun e w' hp => ?_
    rcases hp with ⟨_, he, hb⟩ | ⟨hn, _⟩
    · exact ⟨Al, cl, by rw [Tm.putR, Tm.putL, if_neg hc, if_neg hc, hlx.hlen]; exact he, by rw [Tm.putL, if_neg hc, hlx.hlen]; exact hlx.below hb, hb, by rw [Tm.putL, if_neg hc]; exact .inl ⟨rfl, rfl⟩⟩
    · exact absurd hn hc
theorem Tm.putL_pre (X L : List Tm.Nd) : X <+: Tm.putL X L ∧ (Tm.putL X L).length ≤ X.length + L.length := by
  unfold Tm.putL
  split
  · rename_i hc
    have := Tm.pst_all (X := X) (Tm.chk_ok_iff hc).2 L.length (Nat.le_refl _)
    exact ⟨this.2.1, this.2.2⟩
  · exact ⟨List.prefix_refl X, by omega⟩
theorem Tm.putR_at {X L : List Tm.Nd} (hc : (Tm.chk L).1 = 0) : ∃ i : Nat, Tm.putR X L = (i : Int) ∧ i < (Tm.putL X L).length := by
  obtain ⟨h0, hok⟩ := Tm.chk_ok_iff hc
  obtain ⟨i, e, hi, _⟩ := (Tm.pst_all (X := X) hok L.length (Nat.le_refl _)).1 (L.length - 1) (by omega)
  rw [Tm.putR, Tm.putL, if_pos hc, if_pos hc]
  exact ⟨i, e, hi⟩
end Go.Proofs.Ytdbcpnpcnkccaaa
namespace Go.Proofs.Ytdbcpnpcnkccaaa
set_option maxRecDepth 100000
open Go.RowKit Go.Maps

theorem Tm.mvd_congr {nd : Tm.Nd} {f h : Nat → Int} {k : Nat} (hk : Tm.kok nd k = true) (he : ∀ j, j < k → f j = h j) : Tm.mvd nd f = Tm.mvd nd h := by
  obtain ⟨k0, k1, k2⟩ := Tm.kok_in hk
  unfold Tm.mvd
  congr 1
  · split
    · rename_i c; exact he _ (by have := k0 c; omega)
    · rfl
  · split
    · rename_i c; exact he _ (by have := k1 c; omega)
    · rfl
  · split
    · rename_i c; exact he _ (by have := k2 c; omega)
    · rfl
theorem Tm.nodup_idx {X : List Tm.Nd} (hn : X.Nodup) {i : Nat} (hi : i < X.length) {nd : Tm.Nd} (e : X.getD i Tm.z = nd) : nd ∈ X ∧ X.idxOf nd = i := by
  refine Tm.idx_at hi e fun j hj e2 => ?_
  have h1 : X[j]'(by omega) = X[i] := by
    rw [List.getD_eq_getElem?_getD, List.getElem?_eq_getElem hi] at e
    rw [List.getD_eq_getElem?_getD, List.getElem?_eq_getElem (by omega)] at e2
    exact e2.trans e.symm
  exact absurd h1 ((List.pairwise_iff_getElem.1 hn) j i (by omega) hi hj)
theorem Tm.pst_mono {X L : List Tm.Nd} (hL : Tm.Ok L L.length) {k : Nat} : ∀ m, k ≤ m → m ≤ L.length → (Tm.pst X L k).1 <+: (Tm.pst X L m).1
  | 0, h, _ => by
    obtain rfl : k = 0 := by omega
    exact List.prefix_refl _
  | m + 1, h, hm => by
    rcases Nat.lt_or_ge k (m + 1) with h1 | h1
    · have hp := (Tm.mk_made (Tm.pst_flt (X := X) hL (k := m) (by omega))).2.pre
      exact (Tm.pst_mono hL m (by omega) (by omega)).trans hp
    · obtain rfl : k = m + 1 := by omega
      exact List.prefix_refl _
/-- Where the k-th node went. -/
theorem Tm.pst_place {X L : List Tm.Nd} (hL : Tm.Ok L L.length) {k : Nat} (hk : k < L.length) : ∃ i : Nat, (Tm.pst X L (k + 1)).2 k = (i : Int) ∧ i < (Tm.pst X L (k + 1)).1.length ∧ (Tm.pst X L (k + 1)).1.getD i Tm.z = Tm.mvd (L.getD k Tm.z) (Tm.pst X L k).2 := by
  obtain ⟨i, e, hi, hg⟩ := (Tm.mk_made (Tm.pst_flt (X := X) hL hk)).2.ex
  exact ⟨i, by simp only [Tm.pst, if_true]; exact e, hi, hg⟩
/-- Put again, behind whatever was made since, it is found where it was. -/
theorem Tm.pst_again {X Z L : List Tm.Nd} (hL : Tm.Ok L L.length) (hp : (Tm.pst X L L.length).1 <+: Z) (hn : Z.Nodup) : ∀ k, k ≤ L.length → (Tm.pst Z L k).1 = Z ∧ ∀ j, j < k → (Tm.pst Z L k).2 j = (Tm.pst X L k).2 j
  | 0, _ => ⟨rfl, fun j hj => absurd hj (by omega)⟩
  | k + 1, hk => by
    obtain ⟨h1, h2⟩ := Tm.pst_again hL hp hn k (by omega)
    have hkok := (Tm.flt_zero (hL k (by omega))).2.2.1
    obtain ⟨i, e, hi, hg⟩ := Tm.pst_place (X := X) hL (k := k) (by omega)
    have hpre : (Tm.pst X L (k + 1)).1 <+: Z := (Tm.pst_mono hL L.length (by omega) (Nat.le_refl _)).trans hp
    have hiz : i < Z.length := Nat.lt_of_lt_of_le hi hpre.length_le
    have hgz : Z.getD i Tm.z = Tm.mvd (L.getD k Tm.z) (Tm.pst Z L k).2 := by
      rw [Tm.pre_getD hpre hi, hg]
      exact Tm.mvd_congr hkok (fun j hj => (h2 j hj).symm)
    obtain ⟨hm, hx⟩ := Tm.nodup_idx hn hiz hgz
    have hmk : Tm.mk (Tm.pst Z L k).1 (Tm.mvd (L.getD k Tm.z) (Tm.pst Z L k).2) = (Z, (i : Int), 0) := by
      rw [h1, Tm.mk_in hm, hx]
    refine ⟨?_, fun j hj => ?_⟩
    · show (Tm.mk (Tm.pst Z L k).1 (Tm.mvd (L.getD k Tm.z) (Tm.pst Z L k).2)).1 = Z
      rw [hmk]
    · by_cases c : j = k
      · subst c
        rw [e]
        show (if j = j then (Tm.mk (Tm.pst Z L j).1 (Tm.mvd (L.getD j Tm.z) (Tm.pst Z L j).2)).2.1 else (Tm.pst Z L j).2 j) = _
        rw [if_pos rfl, hmk]
      · show (if j = k then _ else (Tm.pst Z L k).2 j) = (if j = k then _ else (Tm.pst X L k).2 j)
        rw [if_neg c, if_neg c]
        exact h2 j (by omega)
theorem Tm.put_again {X Z L : List Tm.Nd} (hc : (Tm.chk L).1 = 0) (hp : Tm.putL X L <+: Z) (hn : Z.Nodup) : Tm.putL Z L = Z ∧ Tm.putR Z L = Tm.putR X L := by
  obtain ⟨h0, hok⟩ := Tm.chk_ok_iff hc
  rw [Tm.putL, if_pos hc] at hp
  obtain ⟨h1, h2⟩ := Tm.pst_again hok hp hn L.length (Nat.le_refl _)
  rw [Tm.putL, Tm.putR, Tm.putR, if_pos hc, if_pos hc, if_pos hc]
  exact ⟨h1, h2 _ (by omega)⟩

theorem Tm.hgo_congr {X Y : List Tm.Nd} : ∀ n F, (∀ i, i < n → X.getD i Tm.z = Y.getD i Tm.z) → Tm.hgo X n F = Tm.hgo Y n F
  | 0, _, _ => rfl
  | n + 1, F, h => by
    rw [Tm.hgo, Tm.hgo, h n (by omega)]
    exact Tm.hgo_congr n _ (fun i hi => h i (by omega))
theorem Tm.tst_congr {X Y : List Tm.Nd} {F : Nat → Bool} : ∀ n, (∀ i, i < n → X.getD i Tm.z = Y.getD i Tm.z) → Tm.tst X F n = Tm.tst Y F n
  | 0, _ => rfl
  | n + 1, h => by
    have ih := Tm.tst_congr (F := F) n (fun i hi => h i (by omega))
    by_cases c : F n = true
    · rw [Tm.tst_yes c, Tm.tst_yes c, ih, h n (by omega)]
    · rw [Tm.tst_no (by simpa using c), Tm.tst_no (by simpa using c), ih]
theorem Tm.term_pre {X Y : List Tm.Nd} (h : X <+: Y) {p : Nat} (hp : p < X.length) : Tm.term Y p = Tm.term X p := by
  have he : ∀ i, i < p + 1 → Y.getD i Tm.z = X.getD i Tm.z := fun i hi => Tm.pre_getD h (by omega)
  unfold Tm.term Tm.hang
  rw [Tm.hgo_congr _ _ he, Tm.tst_congr _ he]
theorem Tm.hgo_keeps {X : List Tm.Nd} {i : Nat} : ∀ n F, F i = true → Tm.hgo X n F i = true
  | 0, _, h => h
  | n + 1, F, h => by
    rw [Tm.hgo]
    apply Tm.hgo_keeps n
    split
    · simp [Tm.mark, h]
    · exact h
theorem Tm.term_pos (X : List Tm.Nd) (p : Nat) : 0 < (Tm.term X p).length := by
  have h : Tm.hang X p p = true := Tm.hgo_keeps (p + 1) _ (by simp)
  unfold Tm.term
  rw [Tm.tst_yes h]
  simp
theorem Tm.mk_pre (X : List Tm.Nd) (nd : Tm.Nd) : X <+: (Tm.mk X nd).1 := by
  unfold Tm.mk
  split
  · exact List.prefix_refl X
  · split
    · exact List.prefix_refl X
    · exact List.prefix_append X [nd]
end Go.Proofs.Ytdbcpnpcnkccaaa
namespace Go.Proofs.Ytdbcpnpcnkccaaa
set_option maxRecDepth 100000
open Go.RowKit Go.Maps

/-- A list that was there ahead of the arena. -/
theorem Bs.old {n : Nat} {w0 w : World} {g bm : Nat} {A : Option Addr} {cap : Nat} {X : List Tm.Nd} {q : Nat} (h : Aw n w0 w g bm A cap X q) {A0 : Option Addr} {len cap0 : Nat} {L : List Tm.Nd} (hn : n = w0.heap.size) (hx : NdSl w0 A0 len cap0 L) : Bs w g bm A A0 len cap0 L := by
  subst hn
  refine ⟨hx.below h.bel, fun h0 k hk => ?_⟩
  have hlt := hx.nd.lt h0 hk
  have h1 := h.hg
  have h2 := h.hm
  exact ⟨by omega, by omega, fun e => by have := h.ho k e; omega⟩
theorem Bs.new {w w' : World} {g bm : Nat} {A : Option Addr} {cap : Nat} {X : List Tm.Nd} {q : Nat} (h : Ar w g bm A cap X q) {A0 : Option Addr} {len cap0 : Nat} {L : List Tm.Nd} (hx : NdSl w' A0 len cap0 L) (hv : ∀ k, oblk A0 = some k → w.heap.size ≤ k) : Bs w' g bm A A0 len cap0 L := by
  refine ⟨hx, fun h0 k hk => ?_⟩
  have h1 := hv k hk
  have h2 := h.blk.lt
  have h3 := h.mlt
  exact ⟨by omega, by omega, fun e => by have := (h.ne.2 k e).2.2; omega⟩
theorem nil_sl (w : World) : NdSl w none 0 0 [] := ⟨rfl, ⟨Nat.le_refl _, Nat.zero_le _, fun _ => rfl, fun h => absurd h (by omega)⟩, fun x hx => absurd hx (by simp)⟩

end Go.Proofs.Ytdbcpnpcnkccaaa
namespace Go.Proofs.Ytdbcpnpcnkccaaa
set_option maxRecDepth 100000
namespace Tm

/-- j is a kid of the node. -/
def IsKid (nd : Nd) (j : Nat) : Prop := (1 ≤ kidn nd.op ∧ j = nd.a.toNat) ∨ (2 ≤ kidn nd.op ∧ j = nd.b.toNat) ∨ (3 ≤ kidn nd.op ∧ j = nd.c.toNat)
theorem mark_iff {F : Nat → Bool} {nd : Nd} {i : Nat} : mark F nd i = true ↔ F i = true ∨ IsKid nd i := by
  unfold mark IsKid
  simp only [Bool.or_eq_true, decide_eq_true_eq]
theorem IsKid.lt {nd : Nd} {k j : Nat} (hk : kok nd k = true) (h : IsKid nd j) : j < k := by
  obtain ⟨k0, k1, k2⟩ := kok_in hk
  rcases h with ⟨c, rfl⟩ | ⟨c, rfl⟩ | ⟨c, rfl⟩
  · have := k0 c; omega
  · have := k1 c; omega
  · have := k2 c; omega
theorem mvd_congrK {nd : Nd} {f h : Nat → Int} (he : ∀ j, IsKid nd j → f j = h j) : mvd nd f = mvd nd h := by
  unfold mvd
  congr 1
  · split
    · rename_i c; exact he _ (.inl ⟨c, rfl⟩)
    · rfl
  · split
    · rename_i c; exact he _ (.inr (.inl ⟨c, rfl⟩))
    · rfl
  · split
    · rename_i c; exact he _ (.inr (.inr ⟨c, rfl⟩))
    · rfl

section
variable {X : List Nd}
theorem Ok.kok (h : Ok X X.length) {m : Nat} (hm : m < X.length) : Tm.kok (X.getD m z) m = true := (flt_zero (h m hm)).2.2.1
theorem hgo_low (h : Ok X X.length) {i : Nat} : ∀ n F, n ≤ X.length → n ≤ i → hgo X n F i = F i
  | 0, _, _, _ => rfl
  | n + 1, F, hn, hi => by
    rw [hgo, hgo_low h n _ (by omega) (by omega)]
    split
    · rw [Bool.eq_iff_iff, mark_iff]
      refine ⟨fun hh => ?_, .inl⟩
      rcases hh with hh | hh
      · exact hh
      · have := hh.lt (h.kok (m := n) (by omega)); omega
    · rfl
theorem hgo_closed (h : Ok X X.length) : ∀ n F, n ≤ X.length → ∀ i, i < n → hgo X n F i = true → ∀ j, IsKid (X.getD i z) j → hgo X n F j = true
  | 0, _, _, i, hi, _, _, _ => absurd hi (by omega)
  | n + 1, F, hn, i, hi, hg, j, hj => by
    rw [hgo] at hg ⊢
    rcases Nat.lt_or_ge i n with h1 | h1
    · exact hgo_closed h n _ (by omega) i h1 hg j hj
    · obtain rfl : i = n := by omega
      rw [hgo_low h i _ (by omega) (Nat.le_refl _)] at hg
      by_cases c : F i = true
      · rw [if_pos c]
        exact hgo_keeps i _ (mark_iff.2 (.inr hj))
      · rw [if_neg c] at hg
        exact absurd hg c
theorem hgo_used (h : Ok X X.length) : ∀ n F, n ≤ X.length → ∀ i, hgo X n F i = true → F i = true ∨ ∃ k, k < n ∧ hgo X n F k = true ∧ IsKid (X.getD k z) i
  | 0, _, _, i, hg => .inl hg
  | n + 1, F, hn, i, hg => by
    rw [hgo] at hg ⊢
    rcases hgo_used h n _ (by omega) i hg with h1 | ⟨k, hk, h2, h3⟩
    · by_cases c : F n = true
      · rw [if_pos c] at h1
        rcases mark_iff.1 h1 with h1 | h1
        · exact .inl h1
        · refine .inr ⟨n, Nat.lt_succ_self _, ?_, h1⟩
          rw [if_pos c]
          exact hgo_keeps n _ (mark_iff.2 (.inl c))
      · rw [if_neg c] at h1
        exact .inl h1
    · exact .inr ⟨k, by omega, h2, h3⟩
theorem hang_root (p : Nat) : hang X p p = true := hgo_keeps (p + 1) _ (by simp)
theorem hang_used (h : Ok X X.length) {p : Nat} (hp : p < X.length) {i : Nat} (hi : hang X p i = true) : i ≤ p ∧ (i = p ∨ ∃ k, i < k ∧ k ≤ p ∧ hang X p k = true ∧ IsKid (X.getD k z) i) := by
  rcases hgo_used h (p + 1) _ (by omega) i hi with h1 | ⟨k, hk, h2, h3⟩
  · have : i = p := by simpa using h1
    exact ⟨by omega, .inl this⟩
  · have := h3.lt (h.kok (m := k) (by omega))
    exact ⟨by omega, .inr ⟨k, this, by omega, h2, h3⟩⟩
theorem hang_kid (h : Ok X X.length) {p : Nat} (hp : p < X.length) {i j : Nat} (hip : i ≤ p) (hi : hang X p i = true) (hj : IsKid (X.getD i z) j) : hang X p j = true :=
  hgo_closed h (p + 1) _ (by omega) i (by omega) hi j hj

/-! ### The nodes told -/
variable {F : Nat → Bool}
def pos (X : List Nd) (F : Nat → Bool) (i : Nat) : Nat := (tst X F i).2.length
theorem tst_at {i : Nat} (hi : F i = true) : ∀ k, i < k → (tst X F k).1 i = (pos X F i : Int) ∧ pos X F i < (tst X F k).2.length ∧ (tst X F k).2.getD (pos X F i) z = mvd (X.getD i z) (tst X F (i + 1)).1
  | 0, h => absurd h (by omega)
  | k + 1, h => by
    rcases Nat.lt_or_ge i k with h1 | h1
    · obtain ⟨a1, a2, a3⟩ := tst_at hi k h1
      by_cases c : F k = true
      · rw [tst_yes c]
        refine ⟨?_, ?_, ?_⟩
        · show (if i = k then _ else (tst X F k).1 i) = _
          rw [if_neg (by omega)]; exact a1
        · simp; omega
        · rw [List.getD_eq_getElem?_getD, List.getElem?_append_left a2, ← List.getD_eq_getElem?_getD]; exact a3
      · rw [tst_no (by simpa using c)]
        exact ⟨a1, a2, a3⟩
    · obtain rfl : i = k := by omega
      rw [tst_yes hi]
      refine ⟨?_, ?_, ?_⟩
      · show (if i = i then _ else _) = _
        rw [if_pos rfl]; rfl
      · simp [pos]
      · rw [List.getD_eq_getElem?_getD, List.getElem?_append_right (by simp [pos])]
        simp [pos]
theorem tst_from : ∀ k t, t < (tst X F k).2.length → ∃ i, i < k ∧ F i = true ∧ pos X F i = t
  | 0, t, h => by simp [tst] at h
  | k + 1, t, h => by
    by_cases c : F k = true
    · rw [tst_yes c] at h
      rcases Nat.lt_or_ge t (tst X F k).2.length with h1 | h1
      · obtain ⟨i, hi, hf, e⟩ := tst_from k t h1
        exact ⟨i, by omega, hf, e⟩
      · simp at h
        exact ⟨k, by omega, c, by unfold pos; omega⟩
    · rw [tst_no (by simpa using c)] at h
      obtain ⟨i, hi, hf, e⟩ := tst_from k t h
      exact ⟨i, by omega, hf, e⟩
theorem pos_lt {i k : Nat} (hi : F i = true) (h : i < k) : pos X F i < pos X F k := (tst_at hi k h).2.1
theorem pos_inj {i k : Nat} (hi : F i = true) (hk : F k = true) (h : pos X F i = pos X F k) : i = k := by
  rcases Nat.lt_trichotomy i k with h1 | h1 | h1
  · have := pos_lt (X := X) hi h1; omega
  · exact h1
  · have := pos_lt (X := X) hk h1; omega
theorem mvd_fltK {L Y : List Nd} {at' : Nat → Int} {k n : Nat} {nd : Nd} (h : flt nd k L = 0) (hp : ∀ j, IsKid nd j → ∃ i : Nat, at' j = (i : Int) ∧ i < n ∧ (Y.getD i z).w = (L.getD j z).w) : flt (mvd nd at') n Y = 0 := by
  obtain ⟨o0, o1, hk, hw, hn⟩ := flt_zero h
  have hkk : Tm.kok (mvd nd at') n = true := by
    unfold Tm.kok at hk ⊢
    simp only [Bool.and_eq_true] at hk ⊢
    show (if 1 ≤ kidn nd.op then inn (mvd nd at').a n else (mvd nd at').a == 0) = true ∧ (if 2 ≤ kidn nd.op then inn (mvd nd at').b n else (mvd nd at').b == 0) = true ∧ (if 3 ≤ kidn nd.op then inn (mvd nd at').c n else (mvd nd at').c == 0) = true
    refine ⟨?_, ?_, ?_⟩
    · split
      · rename_i c
        obtain ⟨i, e, hi, _⟩ := hp _ (.inl ⟨c, rfl⟩)
        simp only [mvd, c, if_true]
        exact inn_iff.2 (by omega)
      · rename_i c
        rw [if_neg c] at hk
        simp only [mvd, c, if_false]
        exact hk.1
    · split
      · rename_i c
        obtain ⟨i, e, hi, _⟩ := hp _ (.inr (.inl ⟨c, rfl⟩))
        simp only [mvd, c, if_true]
        exact inn_iff.2 (by omega)
      · rename_i c
        rw [if_neg c] at hk
        simp only [mvd, c, if_false]
        exact hk.2.1
    · split
      · rename_i c
        obtain ⟨i, e, hi, _⟩ := hp _ (.inr (.inr ⟨c, rfl⟩))
        simp only [mvd, c, if_true]
        exact inn_iff.2 (by omega)
      · rename_i c
        rw [if_neg c] at hk
        simp only [mvd, c, if_false]
        exact hk.2.2
  have hwd : ∀ a : Int, IsKid nd a.toNat → wd Y (at' a.toNat) = wd L a := fun a ha => by
    obtain ⟨i, e, _, hi⟩ := hp a.toNat ha
    unfold wd
    rw [e, Int.toNat_natCast]
    exact hi
  have e0 : w0 (mvd nd at') Y = w0 nd L := by
    show (if 1 ≤ kidn nd.op then wd Y (mvd nd at').a else 0) = (if 1 ≤ kidn nd.op then wd L nd.a else 0)
    split
    · rename_i c
      simp only [mvd, c, if_true]
      exact hwd _ (.inl ⟨c, rfl⟩)
    · rfl
  have e1 : w1 (mvd nd at') Y = w1 nd L := by
    show (if 2 ≤ kidn nd.op then wd Y (mvd nd at').b else 0) = (if 2 ≤ kidn nd.op then wd L nd.b else 0)
    split
    · rename_i c
      simp only [mvd, c, if_true]
      exact hwd _ (.inr (.inl ⟨c, rfl⟩))
    · rfl
  have e2 : w2 (mvd nd at') Y = w2 nd L := by
    show (if 3 ≤ kidn nd.op then wd Y (mvd nd at').c else 0) = (if 3 ≤ kidn nd.op then wd L nd.c else 0)
    split
    · rename_i c
      simp only [mvd, c, if_true]
      exact hwd _ (.inr (.inr ⟨c, rfl⟩))
    · rfl
  unfold flt
  rw [if_neg (by show ¬ (nd.op < 0 ∨ 24 < nd.op); omega), if_neg (by rw [hkk]; simp), e0, e1, e2, if_neg (by show ¬ wok nd.op nd.w _ _ _ = false; rw [hw]; simp), if_neg (by show ¬ nok nd.op nd.w nd.n = false; rw [hn]; simp)]
end

/-! ### A term of an arena -/
section
variable {X : List Nd} (hok : Ok X X.length) {p : Nat} (hp : p < X.length)
include hok hp
/-- A node of the term: its kids told by their places. -/
theorem term_at {i : Nat} (hi : hang X p i = true) : pos X (hang X p) i < (term X p).length ∧ (term X p).getD (pos X (hang X p) i) z = mvd (X.getD i z) (fun j => (pos X (hang X p) j : Int)) := by
  have hip := (hang_used hok hp hi).1
  obtain ⟨_, h2, h3⟩ := tst_at (X := X) hi (p + 1) (by omega)
  refine ⟨h2, ?_⟩
  unfold term
  rw [h3]
  refine mvd_congrK fun j hj => ?_
  have hjl := hj.lt (hok.kok (m := i) (by omega))
  exact (tst_at (X := X) (hang_kid hok hp hip hi hj) (i + 1) (by omega)).1
omit hok hp in
theorem term_from {t : Nat} (ht : t < (term X p).length) : ∃ i, i ≤ p ∧ hang X p i = true ∧ pos X (hang X p) i = t := by
  obtain ⟨i, hi, hf, e⟩ := tst_from (p + 1) t ht
  exact ⟨i, by omega, hf, e⟩
theorem term_ok : Ok (term X p) (term X p).length := fun t ht => by
  obtain ⟨i, hip, hi, rfl⟩ := term_from ht
  unfold fltAt
  rw [(term_at hok hp hi).2]
  refine mvd_fltK (hok i (by omega)) fun j hj => ?_
  have hjm := hang_kid hok hp hip hi hj
  refine ⟨pos X (hang X p) j, rfl, pos_lt hjm (hj.lt (hok.kok (m := i) (by omega))), ?_⟩
  rw [(term_at hok hp hjm).2]
  rfl
omit hok hp in
theorem term_len : (term X p).length = pos X (hang X p) p + 1 := by
  unfold term
  rw [tst_yes (hang_root p)]
  simp [pos]
end
end Tm
end Go.Proofs.Ytdbcpnpcnkccaaa
namespace Go.Proofs.Ytdbcpnpcnkccaaa
set_option maxRecDepth 100000
namespace Tm

theorem mvd_inj {nd nd' : Nd} {f : Nat → Int} {k k' : Nat} (hk : kok nd k = true) (hk' : kok nd' k' = true) (hi : ∀ i j, IsKid nd i → IsKid nd' j → f i = f j → i = j) (e : mvd nd f = mvd nd' f) : nd = nd' := by
  obtain ⟨o, w, n, a, b, c⟩ := nd
  obtain ⟨o', w', n', a', b', c'⟩ := nd'
  obtain ⟨k0, k1, k2⟩ := kok_in hk
  obtain ⟨q0, q1, q2⟩ := kok_in hk'
  simp only [mvd, Nd.mk.injEq] at e
  obtain ⟨e1, e2, e3, e4, e5, e6⟩ := e
  subst e1 e2 e3
  simp only [IsKid] at hi
  have ea : a = a' := by
    by_cases c : 1 ≤ kidn o
    · rw [if_pos c, if_pos c] at e4
      have := hi _ _ (.inl ⟨c, rfl⟩) (.inl ⟨c, rfl⟩) e4
      have h1 := k0 c; have h2 := q0 c
      simp only at h1 h2
      omega
    · rw [if_neg c, if_neg c] at e4; exact e4
  have eb : b = b' := by
    by_cases c : 2 ≤ kidn o
    · rw [if_pos c, if_pos c] at e5
      have := hi _ _ (.inr (.inl ⟨c, rfl⟩)) (.inr (.inl ⟨c, rfl⟩)) e5
      have h1 := k1 c; have h2 := q1 c
      simp only at h1 h2
      omega
    · rw [if_neg c, if_neg c] at e5; exact e5
  have ec : c = c' := by
    by_cases c : 3 ≤ kidn o
    · rw [if_pos c, if_pos c] at e6
      have := hi _ _ (.inr (.inr ⟨c, rfl⟩)) (.inr (.inr ⟨c, rfl⟩)) e6
      have h1 := k2 c; have h2 := q2 c
      simp only at h1 h2
      omega
    · rw [if_neg c, if_neg c] at e6; exact e6
  rw [ea, eb, ec]
theorem mvd_mvd {nd : Nd} {f h : Nat → Int} {k : Nat} (hk : kok nd k = true) (he : ∀ j, IsKid nd j → h (f j).toNat = j) : mvd (mvd nd f) h = nd := by
  obtain ⟨o, w, n, a, b, c⟩ := nd
  obtain ⟨k0, k1, k2⟩ := kok_in hk
  simp only [IsKid] at he
  simp only [mvd, Nd.mk.injEq, true_and]
  refine ⟨?_, ?_, ?_⟩
  · by_cases c : 1 ≤ kidn o
    · simp only [c, if_true]
      rw [he _ (.inl ⟨c, rfl⟩)]
      have h1 := k0 c
      simp only at h1
      omega
    · simp only [c, if_false]
  · by_cases c : 2 ≤ kidn o
    · simp only [c, if_true]
      rw [he _ (.inr (.inl ⟨c, rfl⟩))]
      have h1 := k1 c
      simp only at h1
      omega
    · simp only [c, if_false]
  · by_cases c : 3 ≤ kidn o
    · simp only [c, if_true]
      rw [he _ (.inr (.inr ⟨c, rfl⟩))]
      have h1 := k2 c
      simp only at h1
      omega
    · simp only [c, if_false]
theorem mvd_self {nd : Nd} {h : Nat → Int} {k : Nat} (hk : kok nd k = true) (he : ∀ j, IsKid nd j → h j = j) : mvd nd h = nd := by
  have e : mvd nd h = mvd nd (fun j => (j : Int)) := mvd_congrK he
  rw [e]
  have e2 := mvd_mvd (f := fun j => (j : Int)) (h := fun j => (j : Int)) hk (fun j _ => by simp)
  rw [← e2]
  conv => lhs; rw [e2]
  conv => rhs; rw [e2]
  obtain ⟨o, w, n, a, b, c⟩ := nd
  obtain ⟨k0, k1, k2⟩ := kok_in hk
  simp only [mvd, Nd.mk.injEq, true_and]
  refine ⟨?_, ?_, ?_⟩
  · split
    · rename_i c; have h1 := k0 c; simp only at h1; omega
    · rfl
  · split
    · rename_i c; have h1 := k1 c; simp only at h1; omega
    · rfl
  · split
    · rename_i c; have h1 := k2 c; simp only at h1; omega
    · rfl
theorem IsKid.moved {nd : Nd} {f : Nat → Int} {j t : Nat} (h : IsKid nd j) (e : f j = (t : Int)) : IsKid (mvd nd f) t := by
  unfold IsKid mvd
  rcases h with ⟨c, rfl⟩ | ⟨c, rfl⟩ | ⟨c, rfl⟩
  · refine .inl ⟨c, ?_⟩
    simp only [c, if_true]
    omega
  · refine .inr (.inl ⟨c, ?_⟩)
    simp only [c, if_true]
    omega
  · refine .inr (.inr ⟨c, ?_⟩)
    simp only [c, if_true]
    omega

section
variable {X : List Nd} (hok : Ok X X.length) (hnd : X.Nodup) {p : Nat} (hp : p < X.length)
include hok hp
theorem term_used {t : Nat} (ht : t + 1 < (term X p).length) : ∃ k, t < k ∧ k < (term X p).length ∧ IsKid ((term X p).getD k z) t := by
  obtain ⟨i, hip, hi, rfl⟩ := term_from (X := X) (p := p) (t := t) (by omega)
  rcases (hang_used hok hp hi).2 with rfl | ⟨k, hik, hkp, hk, hkid⟩
  · rw [term_len] at ht; omega
  · refine ⟨pos X (hang X p) k, pos_lt hi hik, (term_at hok hp hk).1, ?_⟩
    rw [(term_at hok hp hk).2]
    exact hkid.moved rfl
include hnd
theorem term_inj {t t' : Nat} (ht : t < (term X p).length) (ht' : t' < (term X p).length) (e : (term X p).getD t z = (term X p).getD t' z) : t = t' := by
  obtain ⟨i, hip, hi, rfl⟩ := term_from ht
  obtain ⟨j, hjp, hj, rfl⟩ := term_from ht'
  rw [(term_at hok hp hi).2, (term_at hok hp hj).2] at e
  have e2 := mvd_inj (hok.kok (m := i) (by omega)) (hok.kok (m := j) (by omega)) (fun a b ha hb hab => pos_inj (hang_kid hok hp hip hi ha) (hang_kid hok hp hjp hj hb) (by exact_mod_cast hab)) e
  have h1 := (nodup_idx hnd (i := i) (by omega) e2).2
  have h2 := (nodup_idx hnd (i := j) (by omega) rfl).2
  rw [show i = j by omega]
theorem pst_back : ∀ t, t ≤ (term X p).length → (pst X (term X p) t).1 = X ∧ ∀ i, hang X p i = true → pos X (hang X p) i < t → (pst X (term X p) t).2 (pos X (hang X p) i) = (i : Int)
  | 0, _ => ⟨rfl, fun _ _ h => absurd h (by omega)⟩
  | t + 1, ht => by
    obtain ⟨h1, h2⟩ := pst_back t (by omega)
    obtain ⟨i, hip, hi, rfl⟩ := term_from (X := X) (p := p) (t := t) (by omega)
    have em : mvd ((term X p).getD (pos X (hang X p) i) z) (pst X (term X p) (pos X (hang X p) i)).2 = X.getD i z := by
      rw [(term_at hok hp hi).2]
      refine mvd_mvd (hok.kok (m := i) (by omega)) fun j hj => ?_
      have hjm := hang_kid hok hp hip hi hj
      exact h2 j hjm (pos_lt hjm (hj.lt (hok.kok (m := i) (by omega))))
    have hn := nodup_idx hnd (i := i) (by omega) rfl
    rw [pst, h1, em, mk_in hn.1, hn.2]
    refine ⟨rfl, fun k hk hl => ?_⟩
    show (if _ then _ else _) = _
    split
    · rename_i c
      rw [pos_inj hk hi c]
    · exact h2 k hk (by omega)
omit hnd in
theorem term_chk : chk (term X p) = (0, 0) := chk_ok (term_pos X p) (term_ok hok hp)
theorem put_back : putL X (term X p) = X ∧ putR X (term X p) = (p : Int) := by
  have hc : (chk (term X p)).1 = 0 := by rw [term_chk hok hp]
  obtain ⟨h1, h2⟩ := pst_back hok hnd hp _ (Nat.le_refl _)
  rw [putL, putR, if_pos hc, if_pos hc]
  refine ⟨h1, ?_⟩
  have := h2 p (hang_root p) (by rw [term_len]; omega)
  rw [show (term X p).length - 1 = pos X (hang X p) p by rw [term_len]; omega]
  exact this
end

/-! ### A list that is a term told -/
section
variable {T : List Nd} (hok : Ok T T.length) (hinj : ∀ t t', t < T.length → t' < T.length → T.getD t z = T.getD t' z → t = t') (hus : ∀ t, t + 1 < T.length → ∃ k, t < k ∧ k < T.length ∧ IsKid (T.getD k z) t) (h0 : 0 < T.length)
include hok hinj in
theorem pst_self : ∀ t, t ≤ T.length → (pst [] T t).1 = T.take t ∧ ∀ j, j < t → (pst [] T t).2 j = (j : Int)
  | 0, _ => ⟨rfl, fun _ h => absurd h (by omega)⟩
  | t + 1, ht => by
    obtain ⟨h1, h2⟩ := pst_self t (by omega)
    have hk := hok.kok (m := t) (by omega)
    have hf := pst_flt (X := []) hok (k := t) (by omega)
    have em : mvd (T.getD t z) (pst [] T t).2 = T.getD t z := mvd_self hk fun j hj => h2 j (hj.lt hk)
    rw [em, h1] at hf
    have hni : T.getD t z ∉ T.take t := fun hm => by
      obtain ⟨g1, g2⟩ := getD_idxOf hm
      have hl : (T.take t).length = t := by simp; omega
      rw [hl] at g1
      rw [List.getD_eq_getElem?_getD, List.getElem?_take_of_lt g1, ← List.getD_eq_getElem?_getD] at g2
      have := hinj _ _ (by omega) (by omega) g2
      omega
    have hl : (T.take t).length = t := by simp; omega
    rw [pst, h1, em, mk_new hni hf]
    refine ⟨?_, fun j hj => ?_⟩
    · show T.take t ++ [T.getD t z] = T.take (t + 1)
      rw [List.take_add_one, List.getElem?_eq_getElem (by omega), List.getD_eq_getElem?_getD, List.getElem?_eq_getElem (by omega)]
      rfl
    · show (if _ then _ else _) = _
      split
      · rename_i c
        rw [hl, c]
      · exact h2 j (by omega)
include hok hinj h0 in
theorem put_self : putL [] T = T ∧ putR [] T = ((T.length - 1 : Nat) : Int) := by
  have hc : (chk T).1 = 0 := by rw [chk_ok h0 hok]
  obtain ⟨h1, h2⟩ := pst_self hok hinj _ (Nat.le_refl _)
  rw [putL, putR, if_pos hc, if_pos hc]
  exact ⟨by rw [h1, List.take_length], h2 _ (by omega)⟩
include hok hus h0 in
theorem hang_all : ∀ n i, i < T.length → T.length ≤ i + n → hang T (T.length - 1) i = true
  | 0, i, h, h' => absurd h (by omega)
  | n + 1, i, h, h' => by
    rcases Nat.lt_or_ge (i + 1) T.length with h1 | h1
    · obtain ⟨k, hk, hkl, hkk⟩ := hus i h1
      exact hang_kid hok (by omega) (i := k) (by omega) (hang_all n k hkl (by omega)) hkk
    · obtain rfl : i = T.length - 1 := by omega
      exact hang_root _
include hok hus h0 in
theorem tst_self : ∀ t, t ≤ T.length → (tst T (hang T (T.length - 1)) t).2 = T.take t ∧ ∀ j, j < t → (tst T (hang T (T.length - 1)) t).1 j = (j : Int)
  | 0, _ => ⟨rfl, fun _ h => absurd h (by omega)⟩
  | t + 1, ht => by
    obtain ⟨h1, h2⟩ := tst_self t (by omega)
    have hk := hok.kok (m := t) (by omega)
    have hh := hang_all hok hus h0 T.length t (by omega) (by omega)
    have hl : (T.take t).length = t := by simp; omega
    obtain ⟨_, a2, a3⟩ := tst_at (X := T) hh (t + 1) (Nat.lt_succ_self _)
    have hat : ∀ j, j < t + 1 → (tst T (hang T (T.length - 1)) (t + 1)).1 j = (j : Int) := fun j hj => by
      rw [tst_yes hh]
      show (if _ then _ else _) = _
      split
      · rename_i c
        rw [h1, hl, c]
      · exact h2 j (by omega)
    refine ⟨?_, hat⟩
    rw [mvd_self hk fun j hj => hat j (by have := hj.lt hk; omega)] at a3
    have ep : pos T (hang T (T.length - 1)) t = t := by unfold pos; rw [h1, hl]
    rw [ep] at a3 a2
    rw [tst_yes hh] at a3 a2 ⊢
    simp only at a3 a2 ⊢
    rw [h1] at a3 a2 ⊢
    rw [List.getD_eq_getElem?_getD, List.getElem?_append_right (by omega), hl, Nat.sub_self] at a3
    rw [List.take_add_one, List.getElem?_eq_getElem (by omega)]
    congr 1
    have : T.getD t z = T[t] := by rw [List.getD_eq_getElem?_getD, List.getElem?_eq_getElem (by omega)]; rfl
    have e2 : ((T.take t).length : Int) = (t : Int) := by rw [hl]
    rw [e2, this]
    rw [this] at a3
    simpa only [List.getElem?_cons_zero, Option.getD_some, Option.toList_some, List.cons.injEq, and_true] using a3
include hok hus h0 in
theorem term_self : term T (T.length - 1) = T := by
  unfold term
  rw [show T.length - 1 + 1 = T.length by omega, (tst_self hok hus h0 _ (Nat.le_refl _)).1, List.take_length]
end
end Tm
end Go.Proofs.Ytdbcpnpcnkccaaa
