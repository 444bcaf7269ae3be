/-
  The walk of the law on nodes that are made.
-/
import Derived.Test.YtfehmbcgehflmaaTmT4
namespace Go.Proofs.Ytfehmbcgehflmaa
set_option linter.unusedSimpArgs false
set_option linter.unusedVariables false
open Go.RowKit Go.Maps

theorem i64_small {x : Int} (h0 : 0 ≤ x) (h1 : x ≤ 1000000000) : (Lit.int .i64 x).wf = true := WalkArith.wf_i64 (by omega)
theorem Tm.Wf.mvd {nd : Tm.Nd} {at' : Nat → Int} (h : Tm.Wf nd) (ha : ∀ j, 0 ≤ at' j ∧ at' j ≤ 1000000000) : Tm.Wf (Tm.mvd nd at') := by
  refine ⟨h.op, h.w, h.n, ?_, ?_, ?_⟩
  all_goals
    unfold Tm.mvd
    dsimp only
    split
  · exact i64_small (ha _).1 (ha _).2
  · exact h.a
  · exact i64_small (ha _).1 (ha _).2
  · exact h.b
  · exact i64_small (ha _).1 (ha _).2
  · exact h.c
theorem getD_wf {X : List Tm.Nd} (h : ∀ x ∈ X, Tm.Wf x) (i : Nat) : Tm.Wf (X.getD i Tm.z) := by
  rw [List.getD_eq_getElem?_getD]
  rcases Nat.lt_or_ge i X.length with h1 | h1
  · rw [List.getElem?_eq_getElem h1]; exact h _ (List.getElem_mem h1)
  · rw [List.getElem?_eq_none h1]; exact Tm.wf_z
theorem Tm.tst_wf {X : List Tm.Nd} {F : Nat → Bool} (h : ∀ x ∈ X, Tm.Wf x) : ∀ k, k ≤ 1000000 → (∀ j, 0 ≤ (Tm.tst X F k).1 j ∧ (Tm.tst X F k).1 j ≤ 1000000000) ∧ ∀ x ∈ (Tm.tst X F k).2, Tm.Wf x
  | 0, _ => ⟨fun j => by simp [Tm.tst], fun x hx => by simp [Tm.tst] at hx⟩
  | k + 1, hk => by
    obtain ⟨h1, h2⟩ := Tm.tst_wf h k (by omega)
    have hl := Tm.tst_len X F k
    by_cases hF : F k = true
    · rw [Tm.tst_yes hF]
      have ha : ∀ j, 0 ≤ (if j = k then ((Tm.tst X F k).2.length : Int) else (Tm.tst X F k).1 j) ∧ (if j = k then ((Tm.tst X F k).2.length : Int) else (Tm.tst X F k).1 j) ≤ 1000000000 := fun j => by
        split
        · omega
        · exact h1 j
      refine ⟨ha, fun x hx => ?_⟩
      rcases List.mem_append.1 hx with hx | hx
      · exact h2 x hx
      · rw [List.mem_singleton.1 hx]
        exact (getD_wf h k).mvd ha
    · rw [Tm.tst_no (by simpa using hF)]
      exact ⟨h1, h2⟩
theorem Tm.term_wf {X : List Tm.Nd} (h : ∀ x ∈ X, Tm.Wf x) {p : Nat} (hp : p + 1 ≤ 1000000) : ∀ x ∈ Tm.term X p, Tm.Wf x := (Tm.tst_wf h (p + 1) hp).2

/-- A list beside an arena. -/
structure Bs (w : World) (g bm : Nat) (A : Option Addr) (A' : Option Addr) (n cap' : Nat) (X : List Tm.Nd) : Prop where
  sl : NdSl w A' n cap' X
  ne : 0 < n → ∀ k, oblk A' = some k → k ≠ g ∧ k ≠ bm ∧ oblk A ≠ some k
theorem NdR.lt {w : World} {A : Option Addr} {len cap : Nat} {X : List Tm.Nd} (h : NdR w A len cap X) (h0 : 0 < len) {k : Nat} (hk : oblk A = some k) : k < w.heap.size := by
  obtain ⟨b, o, e, hlt, hx⟩ := h.mem h0
  rw [e] at hk
  simp [oblk] at hk
  omega
theorem NdR.keep {w w' : World} {A : Option Addr} {len cap : Nat} {X : List Tm.Nd} (h : NdR w A len cap X) (hs : w.heap.size ≤ w'.heap.size) (hk : 0 < len → ∀ k, oblk A = some k → k < w.heap.size → w'.heap[k]? = w.heap[k]?) : NdR w' A len cap X :=
  ⟨h.hle, h.hcap, h.hnone, fun h0 => by
    obtain ⟨b, o, e, hlt, hx⟩ := h.mem h0
    have hb := hk h0 b (by rw [e]; rfl) hlt
    exact ⟨b, o, e, Nat.lt_of_lt_of_le hlt hs, fun i hi => (hx i hi).keep fun o => by simp [World.cell?, hb]⟩⟩
theorem Bs.make {w w' : World} {g bm : Nat} {A A2 : Option Addr} {A' : Option Addr} {n cap' : Nat} {X : List Tm.Nd} (h : Bs w g bm A A' n cap' X) (hf : Fr g (some bm) (oblk A) w w') (hv : Moves w.heap.size (oblk A) (oblk A2)) : Bs w' g bm A2 A' n cap' X := by
  refine ⟨⟨h.sl.hlen, h.sl.nd.keep hf.size fun h0 k hk hlt => ?_, h.sl.wf⟩, fun h0 k hk => ?_⟩
  · obtain ⟨h1, h2, h3⟩ := h.ne h0 k hk
    exact hf.block k hlt h1 (fun e => h2 (Option.some.inj e)) (fun e => h3 e.symm)
  · obtain ⟨h1, h2, h3⟩ := h.ne h0 k hk
    refine ⟨h1, h2, fun e => ?_⟩
    rcases hv with e' | ⟨j, hj, e'⟩
    · exact h3 (e' ▸ e)
    · rw [e'] at e
      injection e with e
      have := h.sl.nd.lt h0 hk
      omega
theorem Bs.ref {w w' : World} {g bm : Nat} {A A' A2 : Option Addr} {n n2 cap' cap2 : Nat} {X Y : List Tm.Nd} {q : Nat} {cap : Nat} {Z : List Tm.Nd} (h : Bs w g bm A A' n cap' X) (har : Ar w g bm A cap Z q) (hs : NdSl w' A2 n2 cap2 Y) (hv : Mv2 w.heap.size A' X A2 Y) : Bs w' g bm A A2 n2 cap2 Y := by
  refine ⟨hs, fun h0 k hk => ?_⟩
  rcases hv with ⟨rfl, rfl⟩ | ⟨j, hj, e⟩
  · exact h.ne (by have := h.sl.hlen; have := hs.hlen; omega) k hk
  · rw [e] at hk
    injection hk with hk
    subst hk
    have h1 := har.blk.lt
    have h2 := har.mlt
    refine ⟨by omega, by omega, fun e2 => ?_⟩
    have := (har.ne.2 j e2).2.2
    omega
theorem Bs.below {w w' : World} {g bm : Nat} {A : Option Addr} {A' : Option Addr} {n cap' : Nat} {X : List Tm.Nd} (h : Bs w g bm A A' n cap' X) (hb : Below w.heap.size w w') : Bs w' g bm A A' n cap' X :=
  ⟨h.sl.below hb, h.ne⟩
theorem Tm.mk_len (X : List Tm.Nd) (nd : Tm.Nd) : (Tm.mk X nd).1.length ≤ X.length + 1 := by
  unfold Tm.mk
  split
  · simp
  · split <;> simp

set_option maxRecDepth 20000 in
set_option maxHeartbeats 1000000 in
theorem makes_long (A : Option Addr) (len cap : Nat) (w : World) (hl : 60 < len) :
    Calls Try.prog 4 #[.slice A len cap] w fun e w' => e = .returned (.bool true) ∧ Below w.heap.size w w' := by
  have hl' : (60 : Int) < len := by omega
  go_enter Try.func4, Try.ntmps4
  go_wp2_with fail
  refine (awake_any _).mono ?_
  rintro e v ⟨rfl, hb⟩
  have HB := Lib.hid hb
  clear hb
  go_wp2
  go_ret
  exact ⟨rfl, HB.out⟩

/-- The first loop's relation. -/
structure MkR (w wr : World) (g bm : Nat) (k : Nat) (X : List Tm.Nd) (A : Option Addr) (cap : Nat) (A' : Option Addr) (cap' : Nat) : Prop where
  aw : Aw w.heap.size w wr g bm A cap X k
  bs : Bs wr g bm A A' X.length cap' X
  le : X.length ≤ k

set_option maxRecDepth 100000 in
set_option maxHeartbeats 8000000 in
theorem makes_short (A0 : Option Addr) (len cap0 : Nat) (L : List Tm.Nd) (w : World) (hx : NdSl w A0 len cap0 L) (hl : len ≤ 60) :
    Calls Try.prog 4 #[.slice A0 len cap0] w fun e w' => e = .returned (.bool true) ∧ Below w.heap.size w w' := by
  have hl' : ¬ (60 : Int) < len := by omega
  have HX := Lib.hid hx
  have hcl := hx.nd.hle
  have hcm := hx.nd.hcap
  unfold maxLen at hcm
  clear hx
  go_enter Try.func4, Try.ntmps4
  go_wp2_with fail
  refine (awake_any _).mono ?_
  rintro e v ⟨rfl, hb⟩
  have HB := Lib.hid hb
  clear hb
  go_wp2_with fail
  refine (new_any v).mono ?_
  rintro e v1 ⟨g, bm, rfl, hA, hb, hg, hbm⟩
  have hsz := HB.out.size
  have h0 : Aw w.heap.size w v1 g bm none 0 [] 0 := ⟨hA, HB.out.trans (hb.mono hsz), by omega, by omega, fun k hk => by simp [oblk] at hk⟩
  have hst : MkR w (v1.alloc (.cells #[] 38)) g bm 0 [] none 0 (some ⟨v1.heap.size, 0, none⟩) 0 := by
    have hbb := Below.box v1 (.cells #[] 38)
    refine ⟨h0.below hbb (by have := h0.bel.size; omega), ⟨NdSl.of_own (base := v1.heap.size) (own_new v1) (fun x hx => absurd hx (by simp)), fun h0 => absurd h0 (by simp)⟩, Nat.le_refl _⟩
  have HST := Lib.hid hst
  clear hA hb hg hbm h0 hst hsz HB
  go_wp2_with fail
  go_loopw [4, 5] (fun l t wr => ∃ (k : Nat) (X : List Tm.Nd) (A : Option Addr) (cap : Nat) (A' : Option Addr) (cap' : Nat), k ≤ len ∧ t = .int .i64 k ∧ l = .slice A' X.length cap' ∧ MkR w wr g bm k X A cap A' cap') (fun _ t _ => len - (intOf t).toNat)
  case atStart => exact ⟨0, [], none, 0, some ⟨v1.heap.size, 0, none⟩, 0, Nat.zero_le _, rfl, rfl, HST.out⟩
  case round =>
    obtain ⟨k, X, A, cap, A', cap', hk, rfl, rfl, hR⟩ := hrel
    by_cases hlt : k < len
    · have hbel := hR.aw.bel
      obtain ⟨bb, oo, rfl, hbb, hmem⟩ := HX.out.nd.mem (by omega)
      have hnd := hmem k hlt
      obtain ⟨x0, x1, x2, x3, x4, x5⟩ := hnd.keep (fun o => hbel.cell (p := ⟨bb, o, none⟩) hbb)
      have hk1 : (k : Int) < len := by omega
      have hk0 : (0 : Int) ≤ k := by omega
      have HWF := Lib.hid (HX.out.getD k)
      have HBB := Lib.hid hbb
      have HND := Lib.hid hnd
      clear hmem hbel hnd
      have HM := Lib.hid (make_any g bm A cap X k (L.getD k Tm.z) wr hR.aw.ar (by omega) HWF.out (by have := hR.le; omega))
      have HR := Lib.hid hR
      have hxl := hR.le
      clear hR hbb
      generalize hnd : L.getD k Tm.z = nd at *
      clear hnd
      obtain ⟨op, v', n, a, b, c⟩ := nd
      dsimp only [ndv] at x0 x1 x2 x3 x4 x5 HM
      go_wp2_with fail
      refine HM.out.mono ?_
      rintro e V ⟨A2, cap2, rfl, har, hfr, hmv⟩
      have hAw := HR.out.aw.fr har hfr hmv HR.out.aw.bel.size
      have hBs := HR.out.bs.make hfr hmv
      have HAw := Lib.hid hAw
      have HBs := Lib.hid hBs
      have hbv := hAw.bel
      obtain ⟨y0, y1, y2, y3, y4, y5⟩ := HND.out.keep (fun o => hbv.cell (p := ⟨bb, o, none⟩) HBB.out)
      dsimp only at y0 y1 y2 y3 y4 y5
      have HRM := Lib.hid (rmake_any A' X.length cap' X ⟨op, v', n, a, b, c⟩ V hBs.sl HWF.out HR.out.aw.ar.ok (by omega))
      have HML := Lib.hid (Tm.mk_len X ⟨op, v', n, a, b, c⟩)
      clear har hfr hmv hAw hBs hbv x0 x1 x2 x3 x4 x5
      generalize hmk : Tm.mk X ⟨op, v', n, a, b, c⟩ = M at *
      obtain ⟨Y, pp, rr⟩ := M
      dsimp only at *
      have HMK := Lib.hid hmk
      clear hmk
      go_wp2_with fail
      refine HRM.out.mono ?_
      rintro e V2 ⟨A3, cap3, rfl, hsl, hb2, hmv2⟩
      rw [HMK.out] at hsl hmv2 ⊢
      dsimp only at hsl hmv2 ⊢
      have hAr2 := HAw.out.below hb2 HAw.out.bel.size
      have hBs2 : Bs V2 g bm A2 A3 Y.length cap3 Y := HBs.out.ref HAw.out.ar hsl hmv2
      have HRN := Lib.hid (show MkR w V2 g bm (k + 1) Y A2 cap2 A3 cap3 from ⟨hAr2, hBs2, by have := HML.out; omega⟩)
      have HLn := Lib.hid (len_any hAr2.ar)
      have HAs := Lib.hid (asked_any hAr2.ar)
      clear hsl hb2 hmv2 hAr2 hBs2 y0 y1 y2 y3 y4 y5
      have hkk : ((k + 1 : Nat) : Int) = (k : Int) + 1 := by omega
      rw [hkk] at HAs
      go_wp2_with (first | (go_at_call 17; refine HLn.out.mono ?_; rintro e w' ⟨rfl, rfl⟩) | (go_at_call 18; refine HAs.out.mono ?_; rintro e w' ⟨rfl, rfl⟩))
      go_roundw
      case rel => exact ⟨k + 1, Y, A2, cap2, A3, cap3, by omega, by go_num, rfl, HRN.out⟩
      case measure => simp [intOf]; omega
    · have hke : k = len := by omega
      subst hke
      have HR := Lib.hid hR
      have hxl := hR.le
      clear hR
      go_wp2_with fail
      obtain ⟨W0, rfl⟩ : ∃ W0, W0 = wr := ⟨_, rfl⟩
      generalize hlx : X.length = lx at *
      have HLX := Lib.hid hlx
      clear hlx
      have HR1 := Lib.hid HR.out.aw
      have HR2 := Lib.hid (show Bs W0 g bm A A' lx cap' X by have := HR.out.bs; rw [HLX.out] at this; exact this)
      clear HR
      go_loopw [11] (fun t wr => ∃ j : Nat, j ≤ lx ∧ t = .int .i64 j ∧ Aw w.heap.size w wr g bm A cap X k ∧ Bs wr g bm A A' lx cap' X) (fun t _ => lx - (intOf t).toNat)
      case atStart => exact ⟨0, Nat.zero_le _, rfl, HR1.out, HR2.out⟩
      case round =>
        obtain ⟨j, hj, rfl, haw, hbs⟩ := hrel
        by_cases hjl : j < lx
        · have hbel := haw.bel
          have M1 := Lib.hid (at_in haw.ar j (by rw [HLX.out]; exact hjl))
          have HAW := Lib.hid haw
          have HBS := Lib.hid hbs
          obtain ⟨bl, ol, rfl, hbl, hmem⟩ := hbs.sl.nd.mem (by omega)
          have hnd := hmem j hjl
          have HBLT := Lib.hid hbl
          have HNDL := Lib.hid hnd
          have hjx : (j : Int) < lx := by omega
          have hj0 : (0 : Int) ≤ j := by omega
          have HJL := Lib.hid hjl
          clear haw hbs hmem hnd hbl hbel HR1 HR2 HX
          generalize hgd : X.getD j Tm.z = nd at *
          clear hgd
          obtain ⟨op, v, n, a, b, c⟩ := nd
          dsimp only [ndv] at *
          go_wp2_with fail
          refine M1.out.mono ?_
          rintro e V1 ⟨rfl, hb1⟩
          have A1 := HAW.out.below hb1 HAW.out.bel.size
          have B1 := HBS.out.below hb1
          have bx1 := Below.box V1 (.cells #[.int .i64 op, .int .i64 v, .int .u64 n, .int .i64 a, .int .i64 b, .int .i64 c] 38)
          have HAU := Lib.hid (A1.below bx1 A1.bel.size)
          have HBU := Lib.hid (B1.below bx1)
          have HNB := Lib.hid (Bx.new V1 ⟨op, v, n, a, b, c⟩)
          have HNL := Lib.hid ((HNDL.out.keep (fun o => hb1.cell (p := ⟨bl, o, none⟩) HBLT.out)).keep (fun o => bx1.cell (p := ⟨bl, o, none⟩) (Nat.lt_of_lt_of_le HBLT.out hb1.size)))
          have HL1 := Lib.hid (show V1.heap.size < (V1.alloc (.cells #[.int .i64 op, .int .i64 v, .int .u64 n, .int .i64 a, .int .i64 b, .int .i64 c] 38)).heap.size by simp)
          have HL2 := Lib.hid (show bl < (V1.alloc (.cells #[.int .i64 op, .int .i64 v, .int .u64 n, .int .i64 a, .int .i64 b, .int .i64 c] 38)).heap.size from Nat.lt_of_lt_of_le (Nat.lt_of_lt_of_le HBLT.out hb1.size) bx1.size)
          clear hb1 A1 B1 bx1 M1
          go_wp2_with fail
          generalize hU : V1.alloc (.cells #[.int .i64 op, .int .i64 v, .int .u64 n, .int .i64 a, .int .i64 b, .int .i64 c] 38) = U at HAU HBU HNB HNL HL1 HL2 ⊢
          clear hU
          have HSB := Lib.hid (show ∀ W, Below U.heap.size U W → (fun W => W.cell? ⟨V1.heap.size, 0, none⟩ = some (.int .i64 op) ∧ W.cell? ⟨V1.heap.size, 1, none⟩ = some (.int .i64 v) ∧ W.cell? ⟨V1.heap.size, 2, none⟩ = some (.int .u64 n) ∧ W.cell? ⟨V1.heap.size, 3, none⟩ = some (.int .i64 a) ∧ W.cell? ⟨V1.heap.size, 4, none⟩ = some (.int .i64 b) ∧ W.cell? ⟨V1.heap.size, 5, none⟩ = some (.int .i64 c) ∧ W.cell? ⟨bl, ol + j * 6, none⟩ = some (.int .i64 op) ∧ W.cell? ⟨bl, ol + j * 6 + 1, none⟩ = some (.int .i64 v) ∧ W.cell? ⟨bl, ol + j * 6 + 2, none⟩ = some (.int .u64 n) ∧ W.cell? ⟨bl, ol + j * 6 + 3, none⟩ = some (.int .i64 a) ∧ W.cell? ⟨bl, ol + j * 6 + 4, none⟩ = some (.int .i64 b) ∧ W.cell? ⟨bl, ol + j * 6 + 5, none⟩ = some (.int .i64 c)) W from fun W hW => by
            obtain ⟨b0, b1, b2, b3, b4, b5⟩ := HNB.out.keep (hW.block _ HL1.out)
            obtain ⟨l0, l1, l2, l3, l4, l5⟩ := HNL.out.keep (fun o => hW.cell (p := ⟨bl, o, none⟩) HL2.out)
            exact ⟨b0, b1, b2, b3, b4, b5, l0, l1, l2, l3, l4, l5⟩)
          have heq := run_neq op v n a b c op v n a b c
          rw [show Tm.sm (⟨op, v, n, a, b, c⟩ : Tm.Nd) ⟨op, v, n, a, b, c⟩ = true from decide_eq_true rfl] at heq
          have HTW := Lib.hid (Tm.term_wf HAW.out.ar.wf (p := j) (by have := HJL.out; have := HLX.out; omega))
          refine wp_region_held_drew (S := (fun W => W.cell? ⟨V1.heap.size, 0, none⟩ = some (.int .i64 op) ∧ W.cell? ⟨V1.heap.size, 1, none⟩ = some (.int .i64 v) ∧ W.cell? ⟨V1.heap.size, 2, none⟩ = some (.int .u64 n) ∧ W.cell? ⟨V1.heap.size, 3, none⟩ = some (.int .i64 a) ∧ W.cell? ⟨V1.heap.size, 4, none⟩ = some (.int .i64 b) ∧ W.cell? ⟨V1.heap.size, 5, none⟩ = some (.int .i64 c) ∧ W.cell? ⟨bl, ol + j * 6, none⟩ = some (.int .i64 op) ∧ W.cell? ⟨bl, ol + j * 6 + 1, none⟩ = some (.int .i64 v) ∧ W.cell? ⟨bl, ol + j * 6 + 2, none⟩ = some (.int .u64 n) ∧ W.cell? ⟨bl, ol + j * 6 + 3, none⟩ = some (.int .i64 a) ∧ W.cell? ⟨bl, ol + j * 6 + 4, none⟩ = some (.int .i64 b) ∧ W.cell? ⟨bl, ol + j * 6 + 5, none⟩ = some (.int .i64 c))) (by kernel_rfl) (HSB.out _ (Below.refl _ _).drew) (fun hHeld => ?_)
          refine wpAnyH_take (i := 0) (v := .agg #[.int .i64 op, .int .i64 v, .int .u64 n, .int .i64 a, .int .i64 b, .int .i64 c]) rfl (by kernel_rfl) (by kernel_rfl) (by kernel_rfl) (fun _ _ _ h => h) (Or.inl ⟨by kernel_rfl, fun w9 hSw => ?_⟩) hHeld ?_
          · (try dsimp only at hSw); go_simp
          try simp only [Act.put, List.setIfInBounds_toArray, List.set_cons_zero, List.set_cons_succ]
          refine wpAnyH_take (i := 1) (v := .slice (some ⟨bl, ol, none⟩) lx cap') rfl (by kernel_rfl) (by kernel_rfl) (by kernel_rfl) (fun _ _ _ h => h) (Or.inl ⟨by kernel_rfl, fun w9 hSw => ?_⟩) hHeld ?_
          · (try dsimp only at hSw); go_simp
          try simp only [Act.put, List.setIfInBounds_toArray, List.set_cons_zero, List.set_cons_succ]
          refine wpAnyH_take (i := 2) (v := .int .i64 (j : Int)) rfl (by kernel_rfl) (by kernel_rfl) (by kernel_rfl) (fun _ _ _ h => h) (Or.inl ⟨by kernel_rfl, fun w9 hSw => ?_⟩) hHeld ?_
          · (try dsimp only at hSw); go_simp
          try simp only [Act.put, List.setIfInBounds_toArray, List.set_cons_zero, List.set_cons_succ]
          refine wpAnyH_take (i := 3) (v := .pointer (some ⟨bl, ol + j * 6, none⟩)) rfl (by kernel_rfl) (by kernel_rfl) (by kernel_rfl) (fun _ _ _ h => h) (Or.inl ⟨by kernel_rfl, fun w9 hSw => ?_⟩) hHeld ?_
          · (try dsimp only at hSw); go_simp
          try simp only [Act.put, List.setIfInBounds_toArray, List.set_cons_zero, List.set_cons_succ]
          refine wpAnyH_take (i := 4) (v := .agg #[.int .i64 op, .int .i64 v, .int .u64 n, .int .i64 a, .int .i64 b, .int .i64 c]) rfl (by kernel_rfl) (by kernel_rfl) (by kernel_rfl) (fun _ _ _ h => h) (Or.inl ⟨by kernel_rfl, fun w9 hSw => ?_⟩) hHeld ?_
          · (try dsimp only at hSw); go_simp
          try simp only [Act.put, List.setIfInBounds_toArray, List.set_cons_zero, List.set_cons_succ]
          refine wpAnyH_take (i := 5) (v := .bool false) rfl (by kernel_rfl) (by kernel_rfl) (by kernel_rfl) (fun _ _ _ h => h) (Or.inl ⟨by kernel_rfl, fun w9 hSw => ?_⟩) hHeld ?_
          · (try dsimp only at hSw); go_simp
          try simp only [Act.put, List.setIfInBounds_toArray, List.set_cons_zero, List.set_cons_succ]
          refine wpAnyH_take (i := 6) (v := .bool false) rfl (by kernel_rfl) (by kernel_rfl) (by kernel_rfl) (fun _ _ _ h => h) (Or.inl ⟨by kernel_rfl, fun w9 hSw => ?_⟩) hHeld ?_
          · (try dsimp only at hSw); go_simp
          try simp only [Act.put, List.setIfInBounds_toArray, List.set_cons_zero, List.set_cons_succ]
          refine wpAnyH_take (i := 7) (v := .bool true) rfl (by kernel_rfl) (by kernel_rfl) (by kernel_rfl) (fun _ _ _ h => h) (Or.inl ⟨by kernel_rfl, fun w9 hSw => ?_⟩) hHeld ?_
          · (try dsimp only at hSw); go_simp
          try simp only [Act.put, List.setIfInBounds_toArray, List.set_cons_zero, List.set_cons_succ]
          refine wpAnyH_take (i := 8) (v := .bool false) rfl (by kernel_rfl) (by kernel_rfl) (by kernel_rfl) (fun _ _ _ h => h) (Or.inl ⟨by kernel_rfl, fun w9 hSw => ?_⟩) hHeld ?_
          · (try dsimp only at hSw); go_simp
          try simp only [Act.put, List.setIfInBounds_toArray, List.set_cons_zero, List.set_cons_succ]
          refine wpAnyH_take (i := 9) (v := .bool false) rfl (by kernel_rfl) (by kernel_rfl) (by kernel_rfl) (fun _ _ _ h => h) (Or.inl ⟨by kernel_rfl, fun w9 hSw => ?_⟩) hHeld ?_
          · (try dsimp only at hSw); go_simp
          try simp only [Act.put, List.setIfInBounds_toArray, List.set_cons_zero, List.set_cons_succ]
          refine wpAnyH_take (i := 10) (v := .bool false) rfl (by kernel_rfl) (by kernel_rfl) (by kernel_rfl) (fun _ _ _ h => h) (Or.inl ⟨by kernel_rfl, fun w9 hSw => ?_⟩) hHeld ?_
          · (try dsimp only at hSw); go_simp
          try simp only [Act.put, List.setIfInBounds_toArray, List.set_cons_zero, List.set_cons_succ]
          refine wpAnyH_take (i := 11) (v := .pointer (some ⟨g, 0, none⟩)) rfl (by kernel_rfl) (by kernel_rfl) (by kernel_rfl) (fun _ _ _ h => h) (Or.inl ⟨by kernel_rfl, fun w9 hSw => ?_⟩) hHeld ?_
          · (try dsimp only at hSw); go_simp
          try simp only [Act.put, List.setIfInBounds_toArray, List.set_cons_zero, List.set_cons_succ]
          refine wpAnyH_take (i := 12) (v := .int .i64 (j : Int)) rfl (by kernel_rfl) (by kernel_rfl) (by kernel_rfl) (fun _ _ _ h => h) (Or.inl ⟨by kernel_rfl, fun w9 hSw => ?_⟩) hHeld ?_
          · (try dsimp only at hSw); go_simp
          try simp only [Act.put, List.setIfInBounds_toArray, List.set_cons_zero, List.set_cons_succ]
          refine wpAnyH_take (i := 14) (v := .slice (some ⟨bl, ol, none⟩) lx cap') rfl (by kernel_rfl) (by kernel_rfl) (by kernel_rfl) (fun _ _ _ h => h) (Or.inl ⟨by kernel_rfl, fun w9 hSw => ?_⟩) hHeld ?_
          · (try dsimp only at hSw); go_simp
          try simp only [Act.put, List.setIfInBounds_toArray, List.set_cons_zero, List.set_cons_succ]
          refine wpAnyH_take (i := 15) (v := .int .i64 (j : Int)) rfl (by kernel_rfl) (by kernel_rfl) (by kernel_rfl) (fun _ _ _ h => h) (Or.inl ⟨by kernel_rfl, fun w9 hSw => ?_⟩) hHeld ?_
          · (try dsimp only at hSw); go_simp
          try simp only [Act.put, List.setIfInBounds_toArray, List.set_cons_zero, List.set_cons_succ]
          clear heq
          refine wpAnyH_ready (rs := [13]) (by kernel_rfl) (by simp) ?_
          refine AllReadyH.cons (o := { dst := some 98, op := Go.Op.call { callee := Go.Callee.value (Go.Operand.func 21), args := #[Go.Operand.tmp 96, Go.Operand.tmp 97], argTypes := #[31, 3] }, type := 22, pos := "law.go:57", after := #[{ on := 11, ground := Go.Ground.data }, { on := 12, ground := Go.Ground.data }, { on := 10, ground := Go.Ground.chain }, { on := 10, ground := Go.Ground.guard }], guard := some (10, false) }) rfl (fun K hK => ?_) AllReadyH.nil
          rw [if_pos (by kernel_rfl)]
          go_simp
          go_at_call 21
          (with_reducible refine (term_in g bm A cap X k j U.drew (HAU.out.ar.below (Below.refl _ _).drew) (by have := HJL.out; have := HLX.out; omega) (by have := HLX.out; omega)).mono ?_)
          rintro e W1 ⟨A5, cap5, rfl, hr5, hc1⟩
          go_wp2_with fail
          have hd1 : Below U.heap.size U W1 := (Below.refl _ _).drew.trans hc1
          refine hK.out _ _ (HSB.out _ hd1) (fun hHeld => ?_)
          clear hK K
          try simp only [Act.put, List.setIfInBounds_toArray, List.set_cons_zero, List.set_cons_succ]
          refine wpAnyH_ready (rs := [16]) (by kernel_rfl) (by simp) ?_
          refine AllReadyH.cons (o := { dst := some 101, op := Go.Op.call { callee := Go.Callee.value (Go.Operand.func 22), args := #[Go.Operand.tmp 99, Go.Operand.tmp 100], argTypes := #[22, 3] }, type := 22, pos := "law.go:57", after := #[{ on := 14, ground := Go.Ground.data }, { on := 15, ground := Go.Ground.data }, { on := 13, ground := Go.Ground.chain }, { on := 10, ground := Go.Ground.guard }], guard := some (10, false) }) rfl (fun K hK => ?_) AllReadyH.nil
          rw [if_pos (by kernel_rfl)]
          go_simp
          go_at_call 22
          (with_reducible refine (rterm_in _ lx cap' X j W1 (HBU.out.sl.below hd1) HAU.out.ar.ok (by have := HJL.out; omega) (by omega)).mono ?_)
          rintro e W2 ⟨A6, cap6, rfl, hr6, hc2⟩
          go_wp2_with fail
          have hd2 : Below U.heap.size U W2 := hd1.trans (hc2.mono hd1.size)
          refine hK.out _ _ (HSB.out _ hd2) (fun hHeld => ?_)
          clear hK K
          try simp only [Act.put, List.setIfInBounds_toArray, List.set_cons_zero, List.set_cons_succ]
          have hs5 : NdSl W2 A5 (Tm.term X j).length cap5 (Tm.term X j) := NdSl.of_own (own_below hr5 hc2) HTW.out
          have hs6 : NdSl W2 A6 (Tm.term X j).length cap6 (Tm.term X j) := NdSl.of_own hr6 HTW.out
          clear hr5 hr6 hc1 hc2 hd1
          refine wpAnyH_ready (rs := [17]) (by kernel_rfl) (by simp) ?_
          refine AllReadyH.cons (o := { dst := some 102, op := Go.Op.call { callee := Go.Callee.value (Go.Operand.func 20), args := #[Go.Operand.tmp 98, Go.Operand.tmp 101], argTypes := #[22, 22] }, type := 4, pos := "law.go:57", after := #[{ on := 13, ground := Go.Ground.data }, { on := 16, ground := Go.Ground.data }, { on := 16, ground := Go.Ground.chain }, { on := 10, ground := Go.Ground.guard }], guard := some (10, false) }) rfl (fun K hK => ?_) AllReadyH.nil
          rw [if_pos (by kernel_rfl)]
          go_simp
          go_at_call 20
          (with_reducible refine (same_any A5 _ cap5 _ A6 _ cap6 _ W2 hs5 hs6).mono ?_)
          rintro e W3 ⟨rfl, nn, rfl⟩
          rw [show decide (Tm.term X j = Tm.term X j) = true from decide_eq_true rfl]
          go_wp2_with fail
          have hd3 := below_drewN hd2 nn
          refine hK.out _ _ (HSB.out _ hd3) (fun hHeld => ?_)
          clear hK K
          try simp only [Act.put, List.setIfInBounds_toArray, List.set_cons_zero, List.set_cons_succ]
          have HD3 := Lib.hid hd3
          clear hd2 hd3 hs5 hs6
          refine wpAnyH_take (i := 18) (v := .bool false) rfl (by kernel_rfl) (by kernel_rfl) (by kernel_rfl) (fun _ _ _ h => h) (Or.inl ⟨by kernel_rfl, fun w9 hSw => ?_⟩) hHeld ?_
          · (try dsimp only at hSw); go_simp
          try simp only [Act.put, List.setIfInBounds_toArray, List.set_cons_zero, List.set_cons_succ]
          refine wpAnyH_take (i := 19) (v := .bool false) rfl (by kernel_rfl) (by kernel_rfl) (by kernel_rfl) (fun _ _ _ h => h) (Or.inl ⟨by kernel_rfl, fun w9 hSw => ?_⟩) hHeld ?_
          · (try dsimp only at hSw); go_simp
          try simp only [Act.put, List.setIfInBounds_toArray, List.set_cons_zero, List.set_cons_succ]
          refine wpAnyH_done (by kernel_rfl) ?_ _
          clear hHeld
          go_wp2
          go_roundw
          case rel => exact ⟨j + 1, by have := HJL.out; have := HLX.out; omega, by go_num, HAU.out.below HD3.out HAU.out.bel.size, HBU.out.below HD3.out⟩
          case measure => simp [intOf]; omega
        · have hje : j = lx := by omega
          subst hje
          have HAW := Lib.hid haw
          have hou : Tm.inn (j : Int) j = false := by rw [← Bool.not_eq_true, Tm.inn_iff]; omega
          have hom : Tm.inn (-1) j = false := by rw [← Bool.not_eq_true, Tm.inn_iff]; omega
          have HOU := Lib.hid hou
          have HOM := Lib.hid hom
          clear haw hbs hou hom HX HR1 HR2
          have M1 := Lib.hid (at_out HAW.out.ar (j : Int) (by rw [HLX.out]; exact HOU.out))
          go_wp2_with fail
          refine M1.out.mono ?_
          rintro e V1 ⟨rfl, hb1⟩
          have A1 := Lib.hid (HAW.out.below hb1 HAW.out.bel.size)
          have A2 := Lib.hid (A1.out.below (Below.box V1 (.cells #[.int .i64 0, .int .i64 0, .int .u64 0, .int .i64 0, .int .i64 0, .int .i64 0] 38)) A1.out.bel.size)
          clear hb1 M1
          have M2 := Lib.hid (at_out A2.out.ar (-1) (by rw [HLX.out]; exact HOM.out))
          dsimp only [ndv, Tm.z]
          go_wp2_with fail
          refine M2.out.mono ?_
          rintro e V2 ⟨rfl, hb2⟩
          have A3 := Lib.hid (A2.out.below hb2 A2.out.bel.size)
          have A4 := Lib.hid (A3.out.below (Below.box V2 (.cells #[.int .i64 0, .int .i64 0, .int .u64 0, .int .i64 0, .int .i64 0, .int .i64 0] 38)) A3.out.bel.size)
          clear hb2 M2
          have M3 := Lib.hid (term_out g bm A cap X k (j : Int) _ A4.out.ar (by rw [HLX.out]; exact HOU.out))
          have M4 := Lib.hid (term_out g bm A cap X k (-1) _ A4.out.ar (by rw [HLX.out]; exact HOM.out))
          dsimp only [ndv, Tm.z]
          go_wp2_with (go_at_call 21; (first | (with_reducible refine M3.out.mono ?_) | (with_reducible refine M4.out.mono ?_)); rintro e w' ⟨rfl, rfl⟩)
          go_ret
          exact ⟨rfl, A4.out.bel⟩

theorem makes_walk (A : Option Addr) (len cap : Nat) (X : List Tm.Nd) (w : World) (hx : NdSl w A len cap X) : Calls Try.prog 4 #[.slice A len cap] w fun e w' => e = .returned (.bool true) ∧ Below w.heap.size w w' := by
  by_cases h : 60 < len
  · exact makes_long A len cap w h
  · exact makes_short A len cap X w hx (by omega)
end Go.Proofs.Ytfehmbcgehflmaa
