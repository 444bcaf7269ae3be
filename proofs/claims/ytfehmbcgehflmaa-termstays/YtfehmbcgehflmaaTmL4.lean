/-
  The walk of the law on lists that are put.
-/
import Derived.Test.YtfehmbcgehflmaaTmP3
namespace Go.Proofs.Ytfehmbcgehflmaa
set_option linter.unusedSimpArgs false
set_option linter.unusedVariables false
open Go.RowKit Go.Maps

/-- A list that was there ahead of the arena. -/
theorem Bs.old {n : Nat} {w0 w : World} {g bm : Nat} {A : Option Addr} {cap : Nat} {X : List Tm.Nd} {q : Nat} (h : Aw n w0 w g bm A cap X q) {A0 : Option Addr} {len cap0 : Nat} {L : List Tm.Nd} (hn : n = w0.heap.size) (hx : NdSl w0 A0 len cap0 L) : Bs w g bm A A0 len cap0 L := by
  subst hn
  refine ⟨hx.below h.bel, fun h0 k hk => ?_⟩
  have hlt := hx.nd.lt h0 hk
  have h1 := h.hg
  have h2 := h.hm
  exact ⟨by omega, by omega, fun e => by have := h.ho k e; omega⟩
theorem Bs.new {w w' : World} {g bm : Nat} {A : Option Addr} {cap : Nat} {X : List Tm.Nd} {q : Nat} (h : Ar w g bm A cap X q) {A0 : Option Addr} {len cap0 : Nat} {L : List Tm.Nd} (hx : NdSl w' A0 len cap0 L) (hv : ∀ k, oblk A0 = some k → w.heap.size ≤ k) : Bs w' g bm A A0 len cap0 L := by
  refine ⟨hx, fun h0 k hk => ?_⟩
  have h1 := hv k hk
  have h2 := h.blk.lt
  have h3 := h.mlt
  exact ⟨by omega, by omega, fun e => by have := (h.ne.2 k e).2.2; omega⟩
theorem nil_sl (w : World) : NdSl w none 0 0 [] := ⟨rfl, ⟨Nat.le_refl _, Nat.zero_le _, fun _ => rfl, fun h => absurd h (by omega)⟩, fun x hx => absurd hx (by simp)⟩

set_option maxRecDepth 20000 in
set_option maxHeartbeats 1000000 in
theorem puts_long (A : Option Addr) (len cap : Nat) (A' : Option Addr) (len' cap' : Nat) (w : World) (hl : 60 < len ∨ 60 < len') :
    Calls Try.prog 5 #[.slice A len cap, .slice A' len' cap'] w fun e w' => e = .returned (.bool true) ∧ Below w.heap.size w w' := by
  have HL := Lib.hid hl
  clear hl
  by_cases h1 : 60 < len
  · have hl' : (60 : Int) < len := by omega
    go_enter Try.func5, Try.ntmps5
    go_wp2_with fail
    refine (awake_any _).mono ?_
    rintro e v ⟨rfl, hb⟩
    have HB := Lib.hid hb
    clear hb
    go_wp2
    go_ret
    exact ⟨rfl, HB.out⟩
  · have hl' : ¬ (60 : Int) < len := by omega
    have hl2 : (60 : Int) < len' := by have := HL.out; omega
    go_enter Try.func5, Try.ntmps5
    go_wp2_with fail
    refine (awake_any _).mono ?_
    rintro e v ⟨rfl, hb⟩
    have HB := Lib.hid hb
    clear hb
    go_wp2
    go_ret
    exact ⟨rfl, HB.out⟩

set_option maxRecDepth 100000 in
set_option maxHeartbeats 8000000 in
theorem puts_short (A0 : Option Addr) (len cap0 : Nat) (L : List Tm.Nd) (B0 : Option Addr) (len' cap' : Nat) (M : List Tm.Nd) (w : World) (hx : NdSl w A0 len cap0 L) (hy : NdSl w B0 len' cap' M) (h1 : len ≤ 60) (h2 : len' ≤ 60) :
    Calls Try.prog 5 #[.slice A0 len cap0, .slice B0 len' cap'] w fun e w' => e = .returned (.bool true) ∧ Below w.heap.size w w' := by
  have h1' : ¬ (60 : Int) < len := by omega
  have h2' : ¬ (60 : Int) < len' := by omega
  have HX := Lib.hid hx
  have HY := Lib.hid hy
  have HL1 := Lib.hid h1
  have HL2 := Lib.hid h2
  clear hx hy h1 h2
  go_enter Try.func5, Try.ntmps5
  go_wp2_with fail
  refine (awake_any _).mono ?_
  rintro e v ⟨rfl, hb⟩
  have HB := Lib.hid hb
  clear hb
  go_wp2_with fail
  refine (new_any v).mono ?_
  rintro e v1 ⟨g, bm, rfl, hA, hb, hg, hbm⟩
  have hsz := HB.out.size
  have h0 : Aw w.heap.size w v1 g bm none 0 [] 0 := ⟨hA, HB.out.trans (hb.mono hsz), by omega, by omega, fun k hk => by simp [oblk] at hk⟩
  have H0 := Lib.hid h0
  have HX1 := Lib.hid ((HX.out.below h0.bel).below (Below.box v1 (.cells #[] 38)))
  clear hA hb hg hbm h0 hsz HB
  go_wp2_with (at_builtin
               refine wpList_apN (w := v1.alloc (.cells #[] 38)) rfl (.tmp 29) (.tmp 30) rfl v1.heap.size (some ⟨v1.heap.size, 0, none⟩) 0 0 [] rfl (own_new v1) A0 len cap0 L rfl HX1.out (by have := HL1.out; omega) (by simp) len (by omega) ?_
               intro A3 c3 v3 hown hb3 _)
  have hb3' : Below v1.heap.size v1 v3 := (Below.box v1 _).trans hb3
  have h3 := H0.out.below hb3' H0.out.bel.size
  have hbs3 : Bs v3 g bm none A3 len c3 L := Bs.new H0.out.ar (NdSl.of_own (X := L) (by simpa using hown) HX.out.wf) (fun k hk => own_ge hown k (by rw [own_is]; exact hk))
  refine (put_any g bm none 0 [] 0 A3 len c3 L v3 h3.ar hbs3 (by have := HL1.out; omega) (by simp) (by omega)).mono ?_
  rintro e v4 ⟨A4, cap4, q4, rfl, har4, hq4, hf4, hm4⟩
  have h4 := h3.fr har4 hf4 hm4 h3.bel.size
  have H4 := Lib.hid h4
  have HX4 := Lib.hid (HX.out.below h4.bel)
  have HY4 := Lib.hid (HY.out.below h4.bel)
  have HPL := Lib.hid (show (Tm.putL [] L).length ≤ L.length by simpa using (Tm.putL_pre [] L).2)
  have HLL := Lib.hid HX.out.hlen
  have HMM := Lib.hid HY.out.hlen
  have HQ4 := Lib.hid hq4
  clear hb3' h3 hbs3 har4 hq4 hf4 hm4 h4 hb3 hown
  have HRP := Lib.hid (rput_any none 0 0 [] A0 len cap0 L v4 (nil_sl v4) (fun j hj => absurd hj (by simp)) HX4.out (by have := HL1.out; omega) (by simp))
  generalize hX1 : Tm.putL [] L = X1 at *
  generalize hR1 : Tm.putR [] L = R1 at *
  have HX1e := Lib.hid hX1
  have HR1e := Lib.hid hR1
  clear hX1 hR1
  obtain ⟨E, hE⟩ : ∃ E, (Tm.chk L).1 = E := ⟨_, rfl⟩
  have HE := Lib.hid hE
  rw [hE]
  clear hE
  go_wp2_with fail
  refine HRP.out.mono ?_
  rintro e v5 ⟨A5, cap5, rfl, hsl5, hb5, hm5⟩
  rw [HX1e.out, HR1e.out, HE.out]
  rw [HX1e.out] at hsl5 hm5
  have h5 := H4.out.below hb5 H4.out.bel.size
  have hbs5 : Bs v5 g bm A4 A5 X1.length cap5 X1 := by
    rcases hm5 with ⟨e1, e2⟩ | ⟨k, hk, e1⟩
    · refine ⟨hsl5, fun h0 => ?_⟩
      rw [e2] at h0
      simp at h0
    · exact Bs.new H4.out.ar hsl5 (fun j hj => by rw [e1] at hj; injection hj with hj; omega)
  have H5 := Lib.hid h5
  have HBS5 := Lib.hid hbs5
  have HM5 := Lib.hid (Bs.old h5 rfl HY.out)
  have HPU := Lib.hid (put_any g bm A4 cap4 X1 q4 B0 len' cap' M v5 h5.ar (Bs.old h5 rfl HY.out) (by have := HL2.out; omega) (by have := HPL.out; have := HLL.out; have := HL1.out; omega) (by have := HQ4.out; have := HLL.out; have := HL1.out; omega))
  clear hsl5 hb5 hm5 h5 hbs5 HRP
  generalize hX2 : Tm.putL X1 M = X2 at *
  generalize hR2 : Tm.putR X1 M = R2 at *
  have HX2e := Lib.hid hX2
  have HR2e := Lib.hid hR2
  clear hX2 hR2
  obtain ⟨G, hG⟩ : ∃ G, (Tm.chk M).1 = G := ⟨_, rfl⟩
  have HG := Lib.hid hG
  clear hG
  go_wp2_with fail
  refine HPU.out.mono ?_
  rintro e v6 ⟨A6, cap6, q6, rfl, har6, hq6, hf6, hm6⟩
  rw [HG.out, HR2e.out]
  rw [HX2e.out] at har6
  have h6 := H5.out.fr har6 hf6 hm6 H5.out.bel.size
  have hbs6 := HBS5.out.make hf6 hm6
  have H6 := Lib.hid h6
  have HBS6 := Lib.hid hbs6
  have HRQ := Lib.hid (rput_any A5 X1.length cap5 X1 B0 len' cap' M v6 hbs6.sl H5.out.ar.ok (HY.out.below h6.bel) (by have := HL2.out; omega) (by have := HPL.out; have := HLL.out; have := HL1.out; omega))
  clear har6 hq6 hf6 hm6 h6 hbs6 HPU
  go_wp2_with fail
  refine HRQ.out.mono ?_
  rintro e v7 ⟨A7, cap7, rfl, hsl7, hb7, hm7⟩
  rw [HX2e.out, HR2e.out, HG.out]
  rw [HX2e.out] at hsl7
  have h7 := H6.out.below hb7 H6.out.bel.size
  have H7 := Lib.hid h7
  have HS7 := Lib.hid hsl7
  have HLE := Lib.hid (len_any h7.ar)
  have HL7 := Lib.hid (show X2.length ≤ 1000000 by
    have a := (Tm.putL_pre X1 M).2
    rw [HX2e.out] at a
    have := HPL.out; have := HLL.out; have := HL1.out; have := HMM.out; have := HL2.out
    omega)
  clear hsl7 hb7 hm7 h7 HRQ
  have hI1 : E = 0 → ∃ i : Nat, R1 = (i : Int) ∧ i < X2.length := fun h => by
    obtain ⟨i, e, hi⟩ := Tm.putR_at (X := []) (L := L) (by rw [HE.out]; exact h)
    rw [HR1e.out] at e
    rw [HX1e.out] at hi
    have := (Tm.putL_pre X1 M).1.length_le
    rw [HX2e.out] at this
    exact ⟨i, e, by omega⟩
  have hI2 : G = 0 → ∃ i : Nat, R2 = (i : Int) ∧ i < X2.length := fun h => by
    obtain ⟨i, e, hi⟩ := Tm.putR_at (X := X1) (L := M) (by rw [HG.out]; exact h)
    rw [HR2e.out] at e
    rw [HX2e.out] at hi
    exact ⟨i, e, hi⟩
  have HI1 := Lib.hid hI1
  have HI2 := Lib.hid hI2
  clear hI1 hI2
  by_cases hG0 : G = 0
  · by_cases hE0 : E = 0
    · obtain ⟨i2, hi2, hl2⟩ := HI2.out hG0
      have HI2x := Lib.hid hl2
      subst hi2
      clear hl2
      obtain ⟨i1, hi1, hl1⟩ := HI1.out hE0
      have HI1x := Lib.hid hl1
      subst hi1
      clear hl1
      subst hG0
      subst hE0
      go_wp2_with (go_at_call 17; refine HLE.out.mono ?_; rintro e w' ⟨rfl, rfl⟩)
      have T2 := Lib.hid (term_in g bm A6 cap6 X2 _ i2 _ H7.out.ar HI2x.out HL7.out)
      refine T2.out.mono ?_
      rintro e Wa2 ⟨At2, ct2, rfl, hr1, hc1⟩
      have R2 := Lib.hid (rterm_in A7 X2.length cap7 X2 i2 Wa2 (HS7.out.below hc1) H7.out.ar.ok HI2x.out HL7.out)
      have HAa2 := Lib.hid (H7.out.below hc1 H7.out.bel.size)
      have HSa2 := Lib.hid (HS7.out.below hc1)
      have HRa2 := Lib.hid hr1
      clear hr1 hc1
      go_wp2_with fail
      refine R2.out.mono ?_
      rintro e Wb2 ⟨Au2, cu2, rfl, hr2, hc2⟩
      have HTW := Tm.term_wf H7.out.ar.wf (p := i2) (by have := HI2x.out; have := HL7.out; omega)
      have S2 := Lib.hid (same_any At2 _ ct2 _ Au2 _ cu2 _ Wb2 (NdSl.of_own (own_below HRa2.out hc2) HTW) (NdSl.of_own hr2 HTW))
      have HAb2 := Lib.hid (HAa2.out.below hc2 HAa2.out.bel.size)
      have HSb2 := Lib.hid (HSa2.out.below hc2)
      clear hr2 hc2 HTW
      go_wp2_with fail
      refine S2.out.mono ?_
      rintro e Wc2 ⟨rfl, nn2, rfl⟩
      first | rw [show decide (Tm.term X2 i2 = Tm.term X2 i2) = true from decide_eq_true rfl] | simp only [decide_true]
      have HAc2 := Lib.hid (HAb2.out.below (below_drewN (Below.refl _ _) nn2) HAb2.out.bel.size)
      have HSc2 := Lib.hid (HSb2.out.below (below_drewN (Below.refl _ _) nn2))
      go_wp2_with fail
      have T1 := Lib.hid (term_in g bm A6 cap6 X2 _ i1 _ HAc2.out.ar HI1x.out HL7.out)
      refine T1.out.mono ?_
      rintro e Wa1 ⟨At1, ct1, rfl, hr1, hc1⟩
      have R1 := Lib.hid (rterm_in A7 X2.length cap7 X2 i1 Wa1 (HSc2.out.below hc1) HAc2.out.ar.ok HI1x.out HL7.out)
      have HAa1 := Lib.hid (HAc2.out.below hc1 HAc2.out.bel.size)
      have HSa1 := Lib.hid (HSc2.out.below hc1)
      have HRa1 := Lib.hid hr1
      clear hr1 hc1
      go_wp2_with fail
      refine R1.out.mono ?_
      rintro e Wb1 ⟨Au1, cu1, rfl, hr2, hc2⟩
      have HTW := Tm.term_wf HAc2.out.ar.wf (p := i1) (by have := HI1x.out; have := HL7.out; omega)
      have S1 := Lib.hid (same_any At1 _ ct1 _ Au1 _ cu1 _ Wb1 (NdSl.of_own (own_below HRa1.out hc2) HTW) (NdSl.of_own hr2 HTW))
      have HAb1 := Lib.hid (HAa1.out.below hc2 HAa1.out.bel.size)
      have HSb1 := Lib.hid (HSa1.out.below hc2)
      clear hr2 hc2 HTW
      go_wp2_with fail
      refine S1.out.mono ?_
      rintro e Wc1 ⟨rfl, nn1, rfl⟩
      first | rw [show decide (Tm.term X2 i1 = Tm.term X2 i1) = true from decide_eq_true rfl] | simp only [decide_true]
      have HAc1 := Lib.hid (HAb1.out.below (below_drewN (Below.refl _ _) nn1) HAb1.out.bel.size)
      have HSc1 := Lib.hid (HSb1.out.below (below_drewN (Below.refl _ _) nn1))
      go_wp2
      go_ret
      exact ⟨rfl, HAc1.out.bel⟩
    · obtain ⟨i2, hi2, hl2⟩ := HI2.out hG0
      have HI2x := Lib.hid hl2
      subst hi2
      clear hl2
      subst hG0
      have hE1 : (E != 0) = true := by simpa using hE0
      clear hE0
      go_wp2_with (go_at_call 17; refine HLE.out.mono ?_; rintro e w' ⟨rfl, rfl⟩)
      have T2 := Lib.hid (term_in g bm A6 cap6 X2 _ i2 _ H7.out.ar HI2x.out HL7.out)
      refine T2.out.mono ?_
      rintro e Wa2 ⟨At2, ct2, rfl, hr1, hc1⟩
      have R2 := Lib.hid (rterm_in A7 X2.length cap7 X2 i2 Wa2 (HS7.out.below hc1) H7.out.ar.ok HI2x.out HL7.out)
      have HAa2 := Lib.hid (H7.out.below hc1 H7.out.bel.size)
      have HSa2 := Lib.hid (HS7.out.below hc1)
      have HRa2 := Lib.hid hr1
      clear hr1 hc1
      go_wp2_with fail
      refine R2.out.mono ?_
      rintro e Wb2 ⟨Au2, cu2, rfl, hr2, hc2⟩
      have HTW := Tm.term_wf H7.out.ar.wf (p := i2) (by have := HI2x.out; have := HL7.out; omega)
      have S2 := Lib.hid (same_any At2 _ ct2 _ Au2 _ cu2 _ Wb2 (NdSl.of_own (own_below HRa2.out hc2) HTW) (NdSl.of_own hr2 HTW))
      have HAb2 := Lib.hid (HAa2.out.below hc2 HAa2.out.bel.size)
      have HSb2 := Lib.hid (HSa2.out.below hc2)
      clear hr2 hc2 HTW
      go_wp2_with fail
      refine S2.out.mono ?_
      rintro e Wc2 ⟨rfl, nn2, rfl⟩
      first | rw [show decide (Tm.term X2 i2 = Tm.term X2 i2) = true from decide_eq_true rfl] | simp only [decide_true]
      have HAc2 := Lib.hid (HAb2.out.below (below_drewN (Below.refl _ _) nn2) HAb2.out.bel.size)
      have HSc2 := Lib.hid (HSb2.out.below (below_drewN (Below.refl _ _) nn2))
      go_wp2_with fail
      go_ret
      exact ⟨rfl, HAc2.out.bel⟩
  · by_cases hE0 : E = 0
    · obtain ⟨i1, hi1, hl1⟩ := HI1.out hE0
      have HI1x := Lib.hid hl1
      subst hi1
      clear hl1
      have hG1 : (G != 0) = true := by simpa using hG0
      clear hG0
      subst hE0
      go_wp2_with (go_at_call 17; refine HLE.out.mono ?_; rintro e w' ⟨rfl, rfl⟩)
      have T1 := Lib.hid (term_in g bm A6 cap6 X2 _ i1 _ H7.out.ar HI1x.out HL7.out)
      refine T1.out.mono ?_
      rintro e Wa1 ⟨At1, ct1, rfl, hr1, hc1⟩
      have R1 := Lib.hid (rterm_in A7 X2.length cap7 X2 i1 Wa1 (HS7.out.below hc1) H7.out.ar.ok HI1x.out HL7.out)
      have HAa1 := Lib.hid (H7.out.below hc1 H7.out.bel.size)
      have HSa1 := Lib.hid (HS7.out.below hc1)
      have HRa1 := Lib.hid hr1
      clear hr1 hc1
      go_wp2_with fail
      refine R1.out.mono ?_
      rintro e Wb1 ⟨Au1, cu1, rfl, hr2, hc2⟩
      have HTW := Tm.term_wf H7.out.ar.wf (p := i1) (by have := HI1x.out; have := HL7.out; omega)
      have S1 := Lib.hid (same_any At1 _ ct1 _ Au1 _ cu1 _ Wb1 (NdSl.of_own (own_below HRa1.out hc2) HTW) (NdSl.of_own hr2 HTW))
      have HAb1 := Lib.hid (HAa1.out.below hc2 HAa1.out.bel.size)
      have HSb1 := Lib.hid (HSa1.out.below hc2)
      clear hr2 hc2 HTW
      go_wp2_with fail
      refine S1.out.mono ?_
      rintro e Wc1 ⟨rfl, nn1, rfl⟩
      first | rw [show decide (Tm.term X2 i1 = Tm.term X2 i1) = true from decide_eq_true rfl] | simp only [decide_true]
      have HAc1 := Lib.hid (HAb1.out.below (below_drewN (Below.refl _ _) nn1) HAb1.out.bel.size)
      have HSc1 := Lib.hid (HSb1.out.below (below_drewN (Below.refl _ _) nn1))
      go_wp2
      go_ret
      exact ⟨rfl, HAc1.out.bel⟩
    · have hG1 : (G != 0) = true := by simpa using hG0
      clear hG0
      have hE1 : (E != 0) = true := by simpa using hE0
      clear hE0
      go_wp2_with (go_at_call 17; refine HLE.out.mono ?_; rintro e w' ⟨rfl, rfl⟩)
      go_ret
      exact ⟨rfl, H7.out.bel⟩

theorem puts_walk (A0 : Option Addr) (len cap0 : Nat) (L : List Tm.Nd) (B0 : Option Addr) (len' cap' : Nat) (M : List Tm.Nd) (w : World) (hx : NdSl w A0 len cap0 L) (hy : NdSl w B0 len' cap' M) :
    Calls Try.prog 5 #[.slice A0 len cap0, .slice B0 len' cap'] w fun e w' => e = .returned (.bool true) ∧ Below w.heap.size w w' := by
  by_cases h : 60 < len ∨ 60 < len'
  · exact puts_long A0 len cap0 B0 len' cap' w h
  · exact puts_short A0 len cap0 L B0 len' cap' M w hx hy (by omega) (by omega)
end Go.Proofs.Ytfehmbcgehflmaa
