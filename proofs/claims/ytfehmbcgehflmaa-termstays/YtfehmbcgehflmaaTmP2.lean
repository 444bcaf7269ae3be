/-
  The contract of Put.
-/
import Derived.Test.YtfehmbcgehflmaaTmP1
import Derived.Test.YtfehmbcgehflmaaTmL1
import Derived.Laws.MakeOwn
namespace Go.Proofs.Ytfehmbcgehflmaa
set_option linter.unusedSimpArgs false
set_option linter.unusedVariables false
open Go.RowKit Go.Maps

theorem Fr.grown {g : Nat} {m o r : Option Nat} {w a b : World} (h : Fr g m o w a) (k : a.grownBy b r) (hr : ∀ j, r = some j → w.heap.size ≤ j) : Fr g m o w b :=
  ⟨k.os.trans h.os, k.tape.trans h.tape, k.output.trans h.output, Nat.le_trans h.size k.size, fun i hi h1 h2 h3 =>
    (k.block i (Nat.lt_of_lt_of_le hi h.size) (fun e => by have := hr i e.symm; omega)).trans (h.block i hi h1 h2 h3)⟩
/-- A row of integers of the call's own, beside an arena. -/
structure Im (w : World) (g bm : Nat) (A : Option Addr) (B : Nat) (Am : Option Addr) (k cm : Nat) (at' : Nat → Int) : Prop where
  row : w.ownsRow B 3 1 (.slice Am k cm) k ((List.range k).map fun i => Value.int .i64 (at' i))
  ne : ∀ j, oblk Am = some j → j ≠ g ∧ j ≠ bm ∧ oblk A ≠ some j
theorem Im.lt {w : World} {g bm : Nat} {A : Option Addr} {B : Nat} {Am : Option Addr} {k cm : Nat} {at' : Nat → Int} (h : Im w g bm A B Am k cm at') {j : Nat} (hj : oblk Am = some j) : B ≤ j ∧ j < w.heap.size := by
  rcases h.row.2 with ⟨e, _⟩ | ⟨g', cap', cur, e, hb, hc, _⟩
  · injection e with e1 _ _
    subst e1
    simp [oblk] at hj
  · injection e with e1 _ _
    subst e1
    simp [oblk] at hj
    subst hj
    exact ⟨hb, (Array.getElem?_eq_some_iff.1 hc).1⟩
theorem own_keep {w w' : World} {base : Nat} {e : TypeId} {size : Nat} {A : Option Addr} {n cap : Nat} {xs : List Value} (h : w.ownsRow base e size (.slice A n cap) n xs) (hk : ∀ k, oblk A = some k → w'.heap[k]? = w.heap[k]?) : w'.ownsRow base e size (.slice A n cap) n xs := by
  rcases h with ⟨hl, ⟨e', h0⟩ | ⟨g', cap', cur, e', hb', hc, h1, h2, h3, h4⟩⟩
  · exact ⟨hl, .inl ⟨e', h0⟩⟩
  · refine ⟨hl, .inr ⟨g', cap', cur, e', hb', (hk g' ?_).trans hc, h1, h2, h3, h4⟩⟩
    injection e' with e1 _ _
    subst e1
    rfl
theorem Im.below {w w' : World} {g bm : Nat} {A : Option Addr} {B : Nat} {Am : Option Addr} {k cm : Nat} {at' : Nat → Int} (h : Im w g bm A B Am k cm at') (hb : Below w.heap.size w w') : Im w' g bm A B Am k cm at' := ⟨own_below h.row hb, h.ne⟩
theorem Im.make {w w' : World} {g bm : Nat} {A A2 : Option Addr} {B : Nat} {Am : Option Addr} {k cm : Nat} {at' : Nat → Int} (h : Im w g bm A B Am k cm at') (hf : Fr g (some bm) (oblk A) w w') (hv : Moves w.heap.size (oblk A) (oblk A2)) : Im w' g bm A2 B Am k cm at' := by
  refine ⟨own_keep h.row fun j hj => ?_, fun j hj => ?_⟩
  · obtain ⟨h1, h2, h3⟩ := h.ne j hj
    exact hf.block j (h.lt hj).2 h1 (fun e => h2 (Option.some.inj e)) (fun e => h3 e.symm)
  · obtain ⟨h1, h2, h3⟩ := h.ne j hj
    refine ⟨h1, h2, fun e => ?_⟩
    rcases hv with e' | ⟨i, hi, e'⟩
    · exact h3 (e' ▸ e)
    · rw [e'] at e
      injection e with e
      have := (h.lt hj).2
      omega
theorem Im.inr {w : World} {g bm : Nat} {A : Option Addr} {B : Nat} {Am : Option Addr} {k cm : Nat} {at' : Nat → Int} (h : Im w g bm A B Am k cm at') : InR w Am k at' := fun h0 => by
  rcases h.row.2 with ⟨_, h1⟩ | ⟨g', cap', cur, e, hb, hc, _⟩
  · omega
  · have hcell := h.row.cells (g := g')
    injection e with e1 _ _
    subst e1
    have hcell := hcell rfl
    refine ⟨g', 0, rfl, (Array.getElem?_eq_some_iff.1 hc).1, fun i hi => ?_⟩
    have := hcell i (.int .i64 (at' i)) (by simp [hi])
    rw [add_at] at this
    exact this
/-- Behind an append onto it. -/
theorem Im.app {U W : World} {g bm : Nat} {A : Option Addr} {B : Nat} {Am Am2 : Option Addr} {k cm cm2 : Nat} {at' at2 : Nat → Int} {cap : Nat} {X : List Tm.Nd} {q : Nat} {o : Obj} {r : Option Nat} (h : Im U g bm A B Am k cm at') (har : Ar U g bm A cap X q) (hr : r = oblk Am)
    (hrow : W.ownsRow B 3 1 (.slice Am2 (k + 1) cm2) (k + 1) (((List.range k).map fun i => Value.int .i64 (at' i)) ++ [.int .i64 (at2 k)])) (hmv : oblk Am2 = r ∨ oblk Am2 = some (U.alloc o).heap.size) (h2 : ∀ i, i < k → at2 i = at' i) : Im W g bm A B Am2 (k + 1) cm2 at2 := by
  subst hr
  refine ⟨?_, fun j hj => ?_⟩
  · have e : ((List.range (k + 1)).map fun i => Value.int .i64 (at2 i)) = ((List.range k).map fun i => Value.int .i64 (at' i)) ++ [.int .i64 (at2 k)] := by
      rw [List.range_succ, List.map_append, List.map_singleton]
      congr 1
      apply List.map_congr_left
      intro i hi
      rw [h2 i (by simpa using hi)]
    rw [e]
    exact hrow
  · rcases hmv with e | e
    · exact h.ne j (e ▸ hj)
    · rw [e] at hj
      injection hj with hj
      have h1 := har.blk.lt
      have h3 := har.mlt
      have hs : (U.alloc o).heap.size = U.heap.size + 1 := by simp
      refine ⟨by omega, by omega, fun e2 => ?_⟩
      have := (har.ne.2 j e2).2.2
      omega

/-- Put's end, of a list that isn't a term, and of one that is. -/
def PuP (g bm : Nat) (A : Option Addr) (X : List Tm.Nd) (q : Nat) (L : List Tm.Nd) (w : World) (e : Ending) (w' : World) : Prop :=
  ((Tm.chk L).1 ≠ 0 ∧ e = .returned (.tuple #[.int .i64 0, .int .i64 (Tm.chk L).1]) ∧ Below w.heap.size w w') ∨
  ((Tm.chk L).1 = 0 ∧ ∃ A' cap', e = .returned (.tuple #[.int .i64 ((Tm.pst X L L.length).2 (L.length - 1)), .int .i64 0]) ∧ Ar w' g bm A' cap' (Tm.pst X L L.length).1 (q + L.length) ∧ Fr g (some bm) (oblk A) w w' ∧ Moves w.heap.size (oblk A) (oblk A'))
theorem Tm.chk_ok_iff {L : List Tm.Nd} (h : (Tm.chk L).1 = 0) : 0 < L.length ∧ Tm.Ok L L.length := by
  rcases Tm.chk_cases L with ⟨_, e⟩ | ⟨k, _, hf, _, e⟩ | ⟨h0, ha, _⟩
  · rw [e] at h; simp at h
  · rw [e] at h; exact absurd h hf
  · exact ⟨h0, ha⟩
theorem Tm.pst_wf {X L : List Tm.Nd} (hX : X.length ≤ 1000000) (hlen : L.length ≤ 1000000) (hL : Tm.Ok L L.length) (hw : ∀ x ∈ L, Tm.Wf x) {k : Nat} (hk : k < L.length) : Tm.Wf (Tm.mvd (L.getD k Tm.z) (Tm.pst X L k).2) := by
  have hp := Tm.pst_all (X := X) hL k (Nat.le_of_lt hk)
  have hkk := (Tm.kok_in (Tm.flt_zero (hL k hk)).2.2.1)
  have hb : ∀ j, j < k → 0 ≤ (Tm.pst X L k).2 j ∧ (Tm.pst X L k).2 j ≤ 1000000000 := fun j hj => by
    obtain ⟨i, e, hi, _⟩ := hp.1 j hj
    have := hp.2.2
    omega
  have hn := getD_wf hw k
  refine ⟨hn.op, hn.w, hn.n, ?_, ?_, ?_⟩
  all_goals
    unfold Tm.mvd
    dsimp only
    split
  · rename_i c
    have := hkk.1 c
    exact i64_small (hb _ (by omega)).1 (hb _ (by omega)).2
  · exact hn.a
  · rename_i c
    have := hkk.2.1 c
    exact i64_small (hb _ (by omega)).1 (hb _ (by omega)).2
  · exact hn.b
  · rename_i c
    have := hkk.2.2 c
    exact i64_small (hb _ (by omega)).1 (hb _ (by omega)).2
  · exact hn.c

set_option maxRecDepth 20000 in
set_option maxHeartbeats 1000000 in
theorem put_bad (g bm : Nat) (A : Option Addr) (X : List Tm.Nd) (q : Nat) (A0 : Option Addr) (len cap0 : Nat) (L : List Tm.Nd) (w : World) (hx : NdSl w A0 len cap0 L) (hl : len ≤ 65536) (hc : (Tm.chk L).1 ≠ 0) :
    Calls Try.prog 23 #[.pointer (some ⟨g, 0, none⟩), .slice A0 len cap0] w (PuP g bm A X q L w) := by
  have HC := Lib.hid (check_any A0 len cap0 L w hx.nd hx.hlen hx.u hl)
  have HN := Lib.hid hc
  have hc' : ((Tm.chk L).1 != 0) = true := by simpa using hc
  clear hx hc
  generalize hE : (Tm.chk L).1 = E at *
  have HE := Lib.hid hE
  clear hE
  generalize (Tm.chk L).2 = F at *
  go_enter Try.func23, Try.ntmps23
  go_wp2_with fail
  refine HC.out.mono ?_
  rintro e v ⟨rfl, hb⟩
  have HB := Lib.hid hb
  clear hb
  go_wp2
  go_ret2
  exact .inl ⟨by rw [HE.out]; exact HN.out, by rw [HE.out]; rfl, HB.out⟩

/-- Where the root stands, so far. -/
def Tm.rt (X L : List Tm.Nd) (k : Nat) : Int := if k = 0 then 0 else (Tm.pst X L k).2 (k - 1)
/-- The loop's relation. -/
structure PtR (w wr : World) (g bm : Nat) (X L : List Tm.Nd) (q k : Nat) (A A' : Option Addr) (cap' : Nat) (Am : Option Addr) (cm : Nat) (A0 : Option Addr) (cap0 : Nat) : Prop where
  ar : Ar wr g bm A' cap' (Tm.pst X L k).1 (q + k)
  bs : Bs wr g bm A' A0 L.length cap0 L
  im : Im wr g bm A' w.heap.size Am k cm (Tm.pst X L k).2
  fr : Fr g (some bm) (oblk A) w wr
  mv : Moves w.heap.size (oblk A) (oblk A')
theorem run_mk0 (len : Nat) (hl : len ≤ 1000000) (W : World) : (Instr.makeSlice 67 (.int .i64 0) (.int .i64 (len : Int))).run Try.prog W = .ok (.slice (some ⟨W.heap.size, 0, none⟩) 0 len) (W.alloc (.cells (madeCells #[.int .i64 0] len) 3)) := by
  obtain ⟨i, hi, hz⟩ := Option.map_eq_some_iff.1 i_info
  simp only [Prod.mk.injEq] at hz
  obtain ⟨h1, h2, h3⟩ := hz
  have h := run_make (P := Try.prog) W 67 3 i _ Try.underlying67 hi h1 .i64 .i64 0 (len : Int) (by omega) (by omega) (by rw [h3]; omega) (by omega)
  rw [h2] at h
  simpa [Value.cells] using h
theorem mvd_agg (nd : Tm.Nd) : ndv nd = .agg #[.int .i64 nd.op, .int .i64 nd.w, .int .u64 nd.n, .int .i64 nd.a, .int .i64 nd.b, .int .i64 nd.c] := rfl

set_option maxRecDepth 100000 in
set_option maxHeartbeats 8000000 in
theorem put_ok (g bm : Nat) (A : Option Addr) (cap : Nat) (X : List Tm.Nd) (q : Nat) (A0 : Option Addr) (len cap0 : Nat) (L : List Tm.Nd) (w : World) (h : Ar w g bm A cap X q) (hx : Bs w g bm A A0 len cap0 L) (hl : len ≤ 1000) (hX : X.length ≤ 10000) (hq : q ≤ 1000000) (hc : (Tm.chk L).1 = 0) :
    Calls Try.prog 23 #[.pointer (some ⟨g, 0, none⟩), .slice A0 len cap0] w (PuP g bm A X q L w) := by
  have hlen := hx.sl.hlen
  have HC := Lib.hid (check_any A0 len cap0 L w hx.sl.nd hlen hx.sl.u (by omega))
  obtain ⟨h0, hok⟩ := Tm.chk_ok_iff hc
  have HOK := Lib.hid hok
  have HCC := Lib.hid hc
  have hcl := hx.sl.nd.hle
  have hcm := hx.sl.nd.hcap
  unfold maxLen at hcm
  have hmk := run_mk0 len (by omega)
  have HW := Lib.hid hx.sl.wf
  have HX := Lib.hid hX
  have HQ := Lib.hid hq
  have HLN := Lib.hid hlen
  have hl0 : 0 < len := by omega
  obtain ⟨bb, oo, rfl, hbb, hmem⟩ := hx.sl.nd.mem hl0
  have HBBW := Lib.hid hbb
  clear hbb hmem
  have HAR := Lib.hid h
  have HBS := Lib.hid hx
  clear hok h0 h hx hX hq hlen
  rw [hc] at HC
  clear hc
  generalize (Tm.chk L).2 = F at HC
  go_enter Try.func23, Try.ntmps23
  go_wp2_with fail
  refine HC.out.mono ?_
  rintro e v ⟨rfl, hb⟩
  have hst : PtR w (v.alloc (.cells (madeCells #[.int .i64 0] len) 3)) g bm X L q 0 A A cap (some ⟨v.heap.size, 0, none⟩) len (some ⟨bb, oo, none⟩) cap0 := by
    have h1 := HAR.out.below hb
    have hbx := Below.box v (.cells (madeCells #[.int .i64 0] len) 3)
    have hg := h1.blk.lt
    have hm := h1.mlt
    refine ⟨h1.below hbx, by rw [HLN.out]; exact (HBS.out.below hb).below hbx, ⟨own_base (World.ownsRow_made (base := v.heap.size) v _ len (Nat.le_refl _) (by simp only [maxLen]; omega) (by simp [madeCells])) hb.size, fun j hj => ?_⟩, (Fr.of_below hb).below hbx, Moves.refl _ _⟩
    simp [oblk] at hj
    refine ⟨by omega, by omega, fun e => ?_⟩
    have := (h1.ne.2 j e).2.2
    omega
  have HST := Lib.hid hst
  clear hb hst HC
  go_wp2_with fail
  clear hmk
  go_loopw [8, 9, 27] (fun r m t wr => ∃ (k : Nat) (A' : Option Addr) (cap' : Nat) (Am : Option Addr) (cm : Nat), k ≤ len ∧ t = .int .i64 k ∧ r = .int .i64 (Tm.rt X L k) ∧ m = .slice Am k cm ∧ PtR w wr g bm X L q k A A' cap' Am cm (some ⟨bb, oo, none⟩) cap0) (fun _ _ t _ => len - (intOf t).toNat)
  case atStart => exact ⟨0, A, cap, _, len, Nat.zero_le _, rfl, rfl, rfl, HST.out⟩
  case round =>
    obtain ⟨k, A', cap', Am, cm, hk, rfl, rfl, rfl, hR⟩ := hrel
    by_cases hlt : k < len
    · obtain ⟨b1, o1, e1, hbb, hmem⟩ := hR.bs.sl.nd.mem (by rw [HLN.out]; omega)
      injection e1 with e1
      injection e1 with e11 e12 e13
      subst e11 e12
      obtain ⟨x0, x1, x2, x3, x4, x5⟩ := hmem k (by rw [HLN.out]; exact hlt)
      have hk1 : (k : Int) < len := by omega
      have hk0 : (0 : Int) ≤ k := by omega
      have hkL : k < L.length := by rw [HLN.out]; exact hlt
      have hf0 := HOK.out k hkL
      have hkok := (Tm.flt_zero hf0).2.2.1
      have HWF := Lib.hid (Tm.pst_wf (X := X) (by have := HX.out; omega) (by rw [HLN.out]; omega) HOK.out HW.out hkL)
      have hfm := Tm.pst_flt (X := X) HOK.out hkL
      have hmd := Tm.mk_made hfm
      have hpl := (Tm.pst_all (X := X) HOK.out k (by rw [HLN.out]; omega)).2.2
      have HPL := Lib.hid hpl
      have HR := Lib.hid hR
      have hbx := Below.box wr (.cells #[.int .i64 (L.getD k Tm.z).op, .int .i64 (L.getD k Tm.z).w, .int .u64 (L.getD k Tm.z).n, .int .i64 (L.getD k Tm.z).a, .int .i64 (L.getD k Tm.z).b, .int .i64 (L.getD k Tm.z).c] 38)
      have HBX := Lib.hid hbx
      have HMV := Lib.hid (moved_any (L.getD k Tm.z) Am k cm (Tm.pst X L k).2 _ (hR.im.inr.below hbx) hkok)
      have HP1 := Lib.hid (show (Tm.pst X L (k + 1)).1 = (Tm.mk (Tm.pst X L k).1 (Tm.mvd (L.getD k Tm.z) (Tm.pst X L k).2)).1 from rfl)
      have HP2 := Lib.hid (show (Tm.pst X L (k + 1)).2 k = (Tm.mk (Tm.pst X L k).1 (Tm.mvd (L.getD k Tm.z) (Tm.pst X L k).2)).2.1 by simp [Tm.pst])
      have HP3 := Lib.hid (show ∀ i, i < k → (Tm.pst X L (k + 1)).2 i = (Tm.pst X L k).2 i from fun i hi => by simp only [Tm.pst]; rw [if_neg (by omega)])
      have HE0 := Lib.hid hmd.1
      have HRT := Lib.hid (show Tm.rt X L (k + 1) = (Tm.pst X L (k + 1)).2 k by rw [Tm.rt, if_neg (by omega)]; rfl)
      clear hmem hf0 hkok hfm hmd hpl hbx hR hbb
      generalize Tm.rt X L k = RT
      generalize hmv : Tm.mvd (L.getD k Tm.z) (Tm.pst X L k).2 = md at *
      clear hmv
      generalize L.getD k Tm.z = nd at *
      obtain ⟨op, v', n, a, b, c⟩ := nd
      obtain ⟨op', v1, n', a', b', c'⟩ := md
      dsimp only [ndv] at *
      go_wp2_with fail
      refine HMV.out.mono ?_
      rintro e V1 ⟨rfl, hb1⟩
      have hB1 : Below wr.heap.size wr V1 := HBX.out.trans (hb1.mono HBX.out.size)
      have har1 := HR.out.ar.below hB1
      have HBS1 := Lib.hid (HR.out.bs.below hB1)
      have HIM1 := Lib.hid (HR.out.im.below hB1)
      have HFR1 := Lib.hid (HR.out.fr.below hB1)
      have HSZ1 := Lib.hid (Nat.le_trans HR.out.fr.size hB1.size)
      have HMK := Lib.hid (make_any g bm A' cap' (Tm.pst X L k).1 (q + k) ⟨op', v1, n', a', b', c'⟩ V1 har1 (by have := HQ.out; omega) HWF.out (by have := HPL.out; have := HX.out; omega))
      have HMVS := Lib.hid HR.out.mv
      clear hb1 hB1 har1 HMV x0 x1 x2 x3 x4 x5
      dsimp only [ndv] at HMK
      go_wp2_with fail
      refine HMK.out.mono ?_
      rintro e V2 ⟨A2, cap2, rfl, har2, hfr2, hmv2⟩
      rw [HE0.out, ← HP2.out]
      have HAR2 := Lib.hid (show Ar V2 g bm A2 cap2 (Tm.pst X L (k + 1)).1 (q + k + 1) by rw [HP1.out]; exact har2)
      have HBS2 := Lib.hid (HBS1.out.make hfr2 hmv2)
      have HIM2 := Lib.hid (HIM1.out.make hfr2 hmv2)
      have HFR2 := Lib.hid (HFR1.out.trans hfr2 HMVS.out)
      have HMV2 := Lib.hid (HMVS.out.trans hmv2 HSZ1.out)
      clear har2 hfr2 hmv2 HMK
      generalize hpp : (Tm.pst X L (k + 1)).2 k = PP at *
      have HPP := Lib.hid hpp
      clear hpp
      have HRW := Lib.hid (HIM2.out.row.alloc (.cells #[.int .i64 PP] 3))
      have HB0 := Lib.hid (Nat.le_trans (show w.heap.size ≤ V2.heap.size from HFR2.out.size) (Below.box V2 (.cells #[.int .i64 PP] 3)).size)
      obtain ⟨i0, hi0, hz0, hz1, hz2⟩ := info_parts i_info
      go_wp2_with (at_builtin
                   refine wpList_apS (w := V2.alloc (.cells #[.int .i64 PP] 3)) rfl (.tmp 42) (.tmp 44) 67 rfl w.heap.size 3 i0 _ 1 8 Try.underlying67 hi0 hz0 hz1 hz2 rfl (by omega) (.slice Am k cm) k _ rfl
                     HRW.out ⟨V2.heap.size, 0, none⟩ 1 1 [.int .i64 PP] rfl rfl (fun j u hu => by
                       rcases j with _ | j
                       · rw [add_at, Nat.zero_add, World.cell?_alloc_new]; exact hu
                       · simp at hu) (fun u hu => by rw [List.mem_singleton.1 hu]; rfl) (by simp only [maxLen]; omega) (by omega) HB0.out (k + 1) _ rfl rfl ?_
                   intro Am2 cm2 V3 hrow hgrow hmv3
                   have HR3 := Lib.hid hrow
                   have HG3 := Lib.hid hgrow
                   have HM3 := Lib.hid hmv3
                   clear hrow hgrow hmv3)
      go_roundw
      case rel =>
        have hgr : V2.grownBy V3 (oblk Am) := by
          have h1 := HG3.out
          rw [own_is] at h1
          exact (World.grownBy_alloc V2 _ _).trans h1
        have hne := HIM2.out.ne
        have hlt3 : ∀ j, oblk Am = some j → w.heap.size ≤ j := fun j hj => (HIM2.out.lt hj).1
        refine ⟨k + 1, A2, cap2, Am2, cm2, by omega, by go_num, by rw [HRT.out], rfl, ⟨HAR2.out.keep hgr.size (fun j hj => hgr.block j ?_ ?_), ?_, HIM2.out.app HAR2.out own_is ?_ HM3.out HP3.out, HFR2.out.grown hgr hlt3, HMV2.out⟩⟩
        · rcases hj with rfl | rfl | hj
          · exact HAR2.out.blk.lt
          · exact HAR2.out.mlt
          · exact (HAR2.out.ne.2 j hj).2.2
        · intro e
          obtain ⟨q1, q2, q3⟩ := hne j e.symm
          rcases hj with rfl | rfl | hj
          · exact q1 rfl
          · exact q2 rfl
          · exact q3 hj
        · refine ⟨⟨HBS2.out.sl.hlen, HBS2.out.sl.nd.keep hgr.size (fun _ j hj hjl => hgr.block j hjl (fun e => ?_)), HBS2.out.sl.wf⟩, HBS2.out.ne⟩
          have h1 := hlt3 j e.symm
          simp [oblk] at hj
          have := HBBW.out
          omega
        · rw [HPP.out]; exact HR3.out
      case measure => simp [intOf]; omega
    · have hke : k = len := by omega
      subst hke
      have HR := Lib.hid hR
      clear hR
      have HRT := Lib.hid (show Tm.rt X L k = (Tm.pst X L L.length).2 (L.length - 1) by rw [Tm.rt, if_neg (by omega), HLN.out])
      generalize Tm.rt X L k = RT at HRT ⊢
      go_wp2
      go_ret2
      refine .inr ⟨HCC.out, A', cap', by rw [← HRT.out]; rfl, ?_, HR.out.fr, HR.out.mv⟩
      have := HR.out.ar
      rw [HLN.out]
      exact this
end Go.Proofs.Ytfehmbcgehflmaa
