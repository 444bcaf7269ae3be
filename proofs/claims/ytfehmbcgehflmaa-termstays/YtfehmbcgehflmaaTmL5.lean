/-
  The walk of the law on what stays.
-/
import Derived.Test.YtfehmbcgehflmaaTmL4
import Derived.Test.YtfehmbcgehflmaaTmP4
namespace Go.Proofs.Ytfehmbcgehflmaa
set_option linter.unusedSimpArgs false
set_option linter.unusedVariables false
open Go.RowKit Go.Maps

set_option maxRecDepth 20000 in
set_option maxHeartbeats 1000000 in
theorem stays_long (A : Option Addr) (len cap : Nat) (A' : Option Addr) (len' cap' : Nat) (nd : Tm.Nd) (w : World) (hl : 100 < len ∨ 100 < len') :
    Calls Try.prog 8 #[.slice A len cap, .slice A' len' cap', ndv nd] w fun e w' => e = .returned (.bool true) ∧ Below w.heap.size w w' := by
  have HL := Lib.hid hl
  clear hl
  obtain ⟨op, v', n, a, b, c⟩ := nd
  dsimp only [ndv]
  by_cases h1 : 100 < len
  · have hl' : (100 : Int) < len := by omega
    go_enter Try.func8, Try.ntmps8
    go_wp2_with fail
    refine (awake_any _).mono ?_
    rintro e v ⟨rfl, hb⟩
    have HB := Lib.hid ((Below.box w (.cells #[.int .i64 op, .int .i64 v', .int .u64 n, .int .i64 a, .int .i64 b, .int .i64 c] 38)).trans (hb.mono (by simp)))
    clear hb
    go_wp2
    go_ret
    exact ⟨rfl, HB.out⟩
  · have hl' : ¬ (100 : Int) < len := by omega
    have hl2 : (100 : Int) < len' := by have := HL.out; omega
    go_enter Try.func8, Try.ntmps8
    go_wp2_with fail
    refine (awake_any _).mono ?_
    rintro e v ⟨rfl, hb⟩
    have HB := Lib.hid ((Below.box w (.cells #[.int .i64 op, .int .i64 v', .int .u64 n, .int .i64 a, .int .i64 b, .int .i64 c] 38)).trans (hb.mono (by simp)))
    clear hb
    go_wp2
    go_ret
    exact ⟨rfl, HB.out⟩

set_option maxRecDepth 100000 in
set_option maxHeartbeats 8000000 in
theorem stays_short (A0 : Option Addr) (len cap0 : Nat) (L : List Tm.Nd) (B0 : Option Addr) (len' cap' : Nat) (M : List Tm.Nd) (nd : Tm.Nd) (w : World) (hx : NdSl w A0 len cap0 L) (hy : NdSl w B0 len' cap' M) (hw : Tm.Wf nd) (h1 : len ≤ 100) (h2 : len' ≤ 100) :
    Calls Try.prog 8 #[.slice A0 len cap0, .slice B0 len' cap', ndv nd] w fun e w' => e = .returned (.bool true) ∧ Below w.heap.size w w' := by
  have h1' : ¬ (100 : Int) < len := by omega
  have h2' : ¬ (100 : Int) < len' := by omega
  have HWN := Lib.hid hw
  have hbx := Below.box w (.cells #[.int .i64 nd.op, .int .i64 nd.w, .int .u64 nd.n, .int .i64 nd.a, .int .i64 nd.b, .int .i64 nd.c] 38)
  have HBX := Lib.hid hbx
  have HX := Lib.hid (hx.below hbx)
  have HY := Lib.hid (hy.below hbx)
  have HBN := Lib.hid (Bx.new w nd)
  have HSW := Lib.hid (show w.heap.size < (w.alloc (.cells #[.int .i64 nd.op, .int .i64 nd.w, .int .u64 nd.n, .int .i64 nd.a, .int .i64 nd.b, .int .i64 nd.c] 38)).heap.size by simp)
  have HL1 := Lib.hid h1
  have HL2 := Lib.hid h2
  have HLL := Lib.hid hx.hlen
  have HMM := Lib.hid hy.hlen
  clear hx hy hw h1 h2 hbx
  obtain ⟨op, v', n, a, b, c⟩ := nd
  dsimp only [ndv] at *
  go_enter Try.func8, Try.ntmps8
  go_wp2_with fail
  generalize hW0 : w.alloc (.cells #[.int .i64 op, .int .i64 v', .int .u64 n, .int .i64 a, .int .i64 b, .int .i64 c] 38) = W0 at *
  clear hW0
  refine (awake_any W0).mono ?_
  rintro e v ⟨rfl, hb⟩
  have HB := Lib.hid hb
  clear hb
  go_wp2_with fail
  refine (new_any v).mono ?_
  rintro e v1 ⟨g, bm, rfl, hA, hb, hg, hbm⟩
  have hsz := HB.out.size
  have h0 : Aw W0.heap.size W0 v1 g bm none 0 [] 0 := ⟨hA, HB.out.trans (hb.mono hsz), by omega, by omega, fun k hk => by simp [oblk] at hk⟩
  have H0 := Lib.hid h0
  clear hA hb hg hbm hsz HB
  have HPU := Lib.hid (put_any g bm none 0 [] 0 A0 len cap0 L v1 h0.ar (Bs.old h0 rfl HX.out) (by have := HL1.out; omega) (by simp) (by omega))
  clear h0
  have HPL := Lib.hid (show (Tm.putL [] L).length ≤ L.length by simpa using (Tm.putL_pre [] L).2)
  generalize hX1 : Tm.putL [] L = X1 at *
  generalize hR1 : Tm.putR [] L = R1 at *
  have HX1e := Lib.hid hX1
  have HR1e := Lib.hid hR1
  clear hX1 hR1
  go_wp2_with fail
  refine HPU.out.mono ?_
  rintro e v4 ⟨A4, cap4, q4, rfl, har4, hq4, hf4, hm4⟩
  rw [HX1e.out] at har4
  rw [HR1e.out]
  have h4 := H0.out.fr har4 hf4 hm4 H0.out.bel.size
  have H4 := Lib.hid h4
  have HQ4 := Lib.hid hq4
  clear har4 hq4 hf4 hm4 h4 HPU H0
  by_cases hc : (Tm.chk L).1 = 0
  · have HC := Lib.hid hc
    rw [hc]
    clear hc
    obtain ⟨i, ei, hi⟩ := Tm.putR_at (X := []) HC.out
    rw [HR1e.out] at ei
    rw [HX1e.out] at hi
    subst ei
    have HI := Lib.hid hi
    clear hi
    have T1 := Lib.hid (term_in g bm A4 cap4 X1 q4 i v4 H4.out.ar HI.out (by have := HPL.out; have := HLL.out; have := HL1.out; omega))
    go_wp2_with fail
    refine T1.out.mono ?_
    rintro e v5 ⟨A5, cap5, rfl, hr5, hb5⟩
    have h5 := H4.out.below hb5 H4.out.bel.size
    have hs5 : NdSl v5 A5 (Tm.term X1 i).length cap5 (Tm.term X1 i) := NdSl.of_own hr5 (Tm.term_wf H4.out.ar.wf (p := i) (by have := HI.out; have := HPL.out; have := HLL.out; have := HL1.out; omega))
    have hbs5 : Bs v5 g bm A4 A5 (Tm.term X1 i).length cap5 (Tm.term X1 i) := Bs.new H4.out.ar hs5 (fun k hk => own_ge hr5 k (by rw [own_is]; exact hk))
    have H5 := Lib.hid h5
    have HBS5 := Lib.hid hbs5
    have HLn := Lib.hid (len_any h5.ar)
    have HPU := Lib.hid (put_any g bm A4 cap4 X1 q4 B0 len' cap' M v5 h5.ar (Bs.old h5 rfl HY.out) (by have := HL2.out; omega) (by have := HPL.out; have := HLL.out; have := HL1.out; omega) (by have := HQ4.out; have := HLL.out; have := HL1.out; omega))
    have HTP := Lib.hid (Tm.term_pos X1 i)
    clear hr5 hb5 h5 hs5 hbs5 T1
    generalize hT : Tm.term X1 i = T at *
    have HT := Lib.hid hT
    clear hT
    go_wp2_with (go_at_call 17; refine HLn.out.mono ?_; rintro e w' ⟨rfl, rfl⟩)
    refine HPU.out.mono ?_
    rintro e v6 ⟨A6, cap6, q6, rfl, har6, hq6, hf6, hm6⟩
    have h6 := H5.out.fr har6 hf6 hm6 H5.out.bel.size
    have HBS6 := Lib.hid (HBS5.out.make hf6 hm6)
    have H6 := Lib.hid h6
    have HQ6 := Lib.hid hq6
    obtain ⟨b0, b1, b2, b3, b4, b5⟩ := HBN.out.keep (h6.bel.block _ HSW.out)
    dsimp only at b0 b1 b2 b3 b4 b5
    have HP6 := Lib.hid (Tm.putL_pre X1 M)
    have HMK := Lib.hid (make_any g bm A6 cap6 (Tm.putL X1 M) q6 ⟨op, v', n, a, b, c⟩ v6 h6.ar (by have := HQ6.out; have := HQ4.out; have := HLL.out; have := HL1.out; have := HMM.out; have := HL2.out; omega) HWN.out (by have := HP6.out.2; have := HPL.out; have := HLL.out; have := HL1.out; have := HMM.out; have := HL2.out; omega))
    dsimp only [ndv] at HMK
    clear har6 hq6 hf6 hm6 h6 HPU
    go_wp2_with fail
    refine HMK.out.mono ?_
    rintro e v7 ⟨A7, cap7, rfl, har7, hf7, hm7⟩
    have h7 := H6.out.fr har7 hf7 hm7 H6.out.bel.size
    have HBS7 := Lib.hid (HBS6.out.make hf7 hm7)
    have H7 := Lib.hid h7
    have HPR := Lib.hid (show X1 <+: (Tm.mk (Tm.putL X1 M) ⟨op, v', n, a, b, c⟩).1 from HP6.out.1.trans (Tm.mk_pre _ _))
    have HML := Lib.hid (Tm.mk_len (Tm.putL X1 M) ⟨op, v', n, a, b, c⟩)
    have HPV := Lib.hid (put_any g bm A7 cap7 (Tm.mk (Tm.putL X1 M) ⟨op, v', n, a, b, c⟩).1 (q6 + 1) A0 len cap0 L v7 h7.ar (Bs.old h7 rfl HX.out) (by have := HL1.out; omega) (by have := HML.out; have := HP6.out.2; have := HPL.out; have := HLL.out; have := HL1.out; have := HMM.out; have := HL2.out; omega) (by have := HQ6.out; have := HQ4.out; have := HLL.out; have := HL1.out; have := HMM.out; have := HL2.out; omega))
    have HAG := Lib.hid (Tm.put_again (X := []) (Z := (Tm.mk (Tm.putL X1 M) ⟨op, v', n, a, b, c⟩).1) HC.out (by rw [HX1e.out]; exact HPR.out) h7.ar.nodup)
    have HSM := Lib.hid (show (Tm.mk (Tm.putL X1 M) ⟨op, v', n, a, b, c⟩).1.length ≤ 1000000 by have := HML.out; have := HP6.out.2; have := HPL.out; have := HLL.out; have := HL1.out; have := HMM.out; have := HL2.out; omega)
    clear har7 hf7 hm7 h7 HMK b0 b1 b2 b3 b4 b5
    generalize (Tm.mk (Tm.putL X1 M) ⟨op, v', n, a, b, c⟩).2.1 = U1
    generalize (Tm.mk (Tm.putL X1 M) ⟨op, v', n, a, b, c⟩).2.2 = U2
    generalize (Tm.mk (Tm.putL X1 M) ⟨op, v', n, a, b, c⟩).1 = Z at *
    go_wp2_with fail
    refine HPV.out.mono ?_
    rintro e v8 ⟨A8, cap8, q8, rfl, har8, hq8, hf8, hm8⟩
    rw [HAG.out.2, HR1e.out, HC.out]
    rw [HAG.out.1] at har8
    have h8 := H7.out.fr har8 hf8 hm8 H7.out.bel.size
    have hbs8 := HBS7.out.make hf8 hm8
    have H8 := Lib.hid h8
    have HBS8 := Lib.hid hbs8
    have hiz : i < Z.length := Nat.lt_of_lt_of_le HI.out HPR.out.length_le
    have T2 := Lib.hid (term_in g bm A8 cap8 Z q8 i v8 h8.ar hiz HSM.out)
    rw [Tm.term_pre HPR.out HI.out, HT.out] at T2
    have HTW := Lib.hid (show ∀ x ∈ T, Tm.Wf x by
      rw [← HT.out]
      exact Tm.term_wf H4.out.ar.wf (p := i) (by have := HI.out; have := HPL.out; have := HLL.out; have := HL1.out; omega))
    have HLZ := Lib.hid (show X1.length ≤ Z.length from HPR.out.length_le)
    clear har8 hq8 hf8 hm8 h8 hbs8 HPV hiz
    go_wp2_with fail
    refine T2.out.mono ?_
    rintro e v9 ⟨A9, cap9, rfl, hr9, hb9⟩
    have H9 := Lib.hid (H8.out.below hb9 H8.out.bel.size)
    have S9 := Lib.hid (same_any A9 _ cap9 _ A5 _ cap5 _ v9 (NdSl.of_own hr9 HTW.out) (HBS8.out.below hb9).sl)
    clear hr9 hb9 T2
    go_wp2_with fail
    refine S9.out.mono ?_
    rintro e vA ⟨rfl, nn, rfl⟩
    first | rw [show decide (T = T) = true from decide_eq_true rfl] | simp only [decide_true]
    have HA := Lib.hid (H9.out.below (below_drewN (Below.refl _ _) nn) H9.out.bel.size)
    have HL9 := Lib.hid (len_any HA.out.ar)
    have g1 : ((X1.length : Int) ≤ Z.length) := by have := HLZ.out; omega
    have g2 : (0 : Int) < T.length := by have := HTP.out; omega
    have g3 : X1.length ≤ Z.length := HLZ.out
    have g4 : 0 < T.length := HTP.out
    go_wp2_with (go_at_call 17; refine HL9.out.mono ?_; rintro e w' ⟨rfl, rfl⟩)
    go_ret
    exact ⟨rfl, HBX.out.trans (HA.out.bel.mono HBX.out.size)⟩
  · have hc' : ((Tm.chk L).1 != 0) = true := by simpa using hc
    clear hc
    generalize (Tm.chk L).1 = E at *
    go_wp2
    go_ret
    exact ⟨rfl, HBX.out.trans (H4.out.bel.mono HBX.out.size)⟩
theorem stays_walk (A0 : Option Addr) (len cap0 : Nat) (L : List Tm.Nd) (B0 : Option Addr) (len' cap' : Nat) (M : List Tm.Nd) (nd : Tm.Nd) (w : World) (hx : NdSl w A0 len cap0 L) (hy : NdSl w B0 len' cap' M) (hw : Tm.Wf nd) :
    Calls Try.prog 8 #[.slice A0 len cap0, .slice B0 len' cap', ndv nd] w fun e w' => e = .returned (.bool true) ∧ Below w.heap.size w w' := by
  by_cases h : 100 < len ∨ 100 < len'
  · exact stays_long A0 len cap0 B0 len' cap' nd w h
  · exact stays_short A0 len cap0 L B0 len' cap' M nd w hx hy hw (by omega) (by omega)
end Go.Proofs.Ytfehmbcgehflmaa
