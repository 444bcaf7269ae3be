/-
  Two arenas, and the walk of the law on what is put again.
  The walk of the law on what is put again: a list that is a term.
-/
import Derived.Test.YtdbcpnpcnkccaaaMU
set_option linter.unusedSimpArgs false
set_option linter.unusedVariables false
namespace Go.Proofs.Ytdbcpnpcnkccaaa
set_option maxRecDepth 100000
open Go.RowKit Go.Maps

structure Ab (n : Nat) (w0 w : World) (g bm : Nat) (A : Option Addr) (cap : Nat) (X : List Tm.Nd) (q : Nat) (g' bm' : Nat) (A' : Option Addr) (cap' : Nat) (X' : List Tm.Nd) (q' : Nat) : Prop where
  a : Aw n w0 w g bm A cap X q
  b : Ar w g' bm' A' cap' X' q'
  hg : n ≤ g'
  hm : n ≤ bm'
  ho : ∀ k, oblk A' = some k → n ≤ k
  sep : ∀ k, (k = g' ∨ k = bm' ∨ oblk A' = some k) → k ≠ g ∧ k ≠ bm ∧ oblk A ≠ some k
section
variable {n : Nat} {w0 w w' : World} {g bm : Nat} {A A2 : Option Addr} {cap cap2 : Nat} {X X2 : List Tm.Nd} {q q2 : Nat} {g' bm' : Nat} {A' : Option Addr} {cap' : Nat} {X' : List Tm.Nd} {q' : Nat}
theorem Ab.swap (h : Ab n w0 w g bm A cap X q g' bm' A' cap' X' q') : Ab n w0 w g' bm' A' cap' X' q' g bm A cap X q := by
  refine ⟨⟨h.b, h.a.bel, h.hg, h.hm, h.ho⟩, h.a.ar, h.a.hg, h.a.hm, h.a.ho, fun k hk => ?_⟩
  have s1 := h.sep g' (.inl rfl)
  have s2 := h.sep bm' (.inr (.inl rfl))
  refine ⟨fun e => ?_, fun e => ?_, fun e => ?_⟩
  · subst e
    rcases hk with hk | hk | hk
    · exact s1.1 hk
    · exact s1.2.1 hk
    · exact s1.2.2 hk
  · subst e
    rcases hk with hk | hk | hk
    · exact s2.1 hk
    · exact s2.2.1 hk
    · exact s2.2.2 hk
  · have s3 := h.sep k (.inr (.inr e))
    rcases hk with hk | hk | hk
    · exact s3.1 hk
    · exact s3.2.1 hk
    · exact s3.2.2 hk
theorem Ab.at (h : Ab n w0 w g bm A cap X q g' bm' A' cap' X' q') {k : Nat} (hk : k = g' ∨ k = bm' ∨ oblk A' = some k) : k < w.heap.size := by
  rcases hk with rfl | rfl | hk
  · exact h.b.blk.lt
  · exact h.b.mlt
  · exact (h.b.ne.2 k hk).2.2
theorem Ab.fr (h : Ab n w0 w g bm A cap X q g' bm' A' cap' X' q') (ha : Ar w' g bm A2 cap2 X2 q2) (hf : Fr g (some bm) (oblk A) w w') (hv : Moves w.heap.size (oblk A) (oblk A2)) : Ab n w0 w' g bm A2 cap2 X2 q2 g' bm' A' cap' X' q' := by
  refine ⟨h.a.fr ha hf hv (by have := h.a.hg; have := h.a.ar.blk.lt; omega), ?_, h.hg, h.hm, h.ho, fun k hk => ?_⟩
  · refine h.b.keep hf.size fun k hk => ?_
    obtain ⟨s1, s2, s3⟩ := h.sep k hk
    exact hf.block k (h.at hk) s1 (fun e => s2 (Option.some.inj e)) (fun e => s3 e.symm)
  · obtain ⟨s1, s2, s3⟩ := h.sep k hk
    refine ⟨s1, s2, fun e => ?_⟩
    rcases hv with e' | ⟨j, hj, e'⟩
    · exact s3 (e' ▸ e)
    · rw [e'] at e
      injection e with e
      have := h.at hk
      omega
theorem Ab.below (h : Ab n w0 w g bm A cap X q g' bm' A' cap' X' q') (hb : Below w.heap.size w w') : Ab n w0 w' g bm A cap X q g' bm' A' cap' X' q' :=
  ⟨h.a.below hb (by have := h.a.hg; have := h.a.ar.blk.lt; omega), h.b.below hb, h.hg, h.hm, h.ho, h.sep⟩
theorem Ab.new {v v1 v2 : World} (hB : Below n w0 v) (hn : n ≤ v.heap.size) (ha : Ar v1 g bm none 0 [] 0) (hb : Below v.heap.size v v1) (hg : v.heap.size ≤ g) (hbm : v.heap.size ≤ bm) (ha' : Ar v2 g' bm' none 0 [] 0) (hb' : Below v1.heap.size v1 v2) (hg' : v1.heap.size ≤ g') (hbm' : v1.heap.size ≤ bm') : Ab n w0 v2 g bm none 0 [] 0 g' bm' none 0 [] 0 := by
  have h1 := hb.size
  have h2 := ha.blk.lt
  have h3 := ha.mlt
  have h0 : Aw n w0 v1 g bm none 0 [] 0 := ⟨ha, hB.trans (hb.mono hn), by omega, by omega, fun k hk => by simp [oblk] at hk⟩
  refine ⟨h0.below hb' (by omega), ha', by omega, by omega, fun k hk => by simp [oblk] at hk, fun k hk => ⟨?_, ?_, by simp [oblk]⟩⟩
  · rcases hk with hk | hk | hk
    · omega
    · omega
    · simp [oblk] at hk
  · rcases hk with hk | hk | hk
    · omega
    · omega
    · simp [oblk] at hk
end

set_option maxRecDepth 20000 in
set_option maxHeartbeats 1000000 in
theorem back_long (A : Option Addr) (len cap : Nat) (w : World) (hl : 300 < len) :
    Calls Try.prog 3 #[.slice A len cap] w fun e w' => e = .returned (.bool true) ∧ Below w.heap.size w w' := by
  have hl' : (300 : Int) < len := by omega
  clear hl
  go_enter Try.func3, Try.ntmps3
  go_wp2_with fail
  refine (awake_any _).mono ?_
  rintro e v ⟨rfl, hb⟩
  have HB := Lib.hid hb
  clear hb
  go_wp2
  go_ret
  exact ⟨rfl, HB.out⟩

set_option maxRecDepth 100000 in
set_option maxHeartbeats 4000000 in
theorem back_bad (A0 : Option Addr) (len cap0 : Nat) (L : List Tm.Nd) (w : World) (hx : NdSl w A0 len cap0 L) (h1 : len ≤ 300) (hc : (Tm.chk L).1 ≠ 0) :
    Calls Try.prog 3 #[.slice A0 len cap0] w fun e w' => e = .returned (.bool true) ∧ Below w.heap.size w w' := by
  have h1' : ¬ (300 : Int) < len := by omega
  have HX := Lib.hid hx
  have HL1 := Lib.hid h1
  have HLL := Lib.hid hx.hlen
  have HC := Lib.hid hc
  have HP0 := Lib.hid (show Tm.putL [] L = [] by rw [Tm.putL, if_neg hc])
  clear hx h1 hc
  go_enter Try.func3, Try.ntmps3
  go_wp2_with fail
  refine (awake_any _).mono ?_
  rintro e v ⟨rfl, hb⟩
  have HB := Lib.hid hb
  clear hb
  go_wp2_with fail
  refine (new_any v).mono ?_
  rintro e v1 ⟨g, bm, rfl, hA, hb, hg, hbm⟩
  have HA := Lib.hid hA
  have Hb := Lib.hid hb
  have Hg := Lib.hid hg
  have Hbm := Lib.hid hbm
  clear hA hb hg hbm
  go_wp2_with fail
  refine (new_any v1).mono ?_
  rintro e v2 ⟨g', bm', rfl, hA', hb', hg', hbm'⟩
  have h2 : Ab w.heap.size w v2 g bm none 0 [] 0 g' bm' none 0 [] 0 := Ab.new HB.out HB.out.size HA.out Hb.out Hg.out Hbm.out hA' hb' hg' hbm'
  have H2 := Lib.hid h2
  clear hA' hb' hg' hbm' HB HA Hb Hg Hbm
  have HPU := Lib.hid (put_any g bm none 0 [] 0 A0 len cap0 L v2 h2.a.ar (Bs.old h2.a rfl HX.out) (by have := HL1.out; omega) (by simp) (by omega))
  clear h2
  generalize hR1 : Tm.putR [] L = R1 at *
  have HR1e := Lib.hid hR1
  clear hR1
  generalize hE : (Tm.chk L).1 = E at *
  have HE := Lib.hid hE
  clear hE
  go_wp2_with fail
  refine HPU.out.mono ?_
  rintro e v4 ⟨A4, cap4, q4, rfl, har4, hq4, hf4, hm4⟩
  rw [HP0.out] at har4
  rw [HR1e.out, HE.out]
  have h4 := H2.out.fr har4 hf4 hm4
  have H4 := Lib.hid h4
  have hX4 := HX.out.below h4.a.bel
  have HCK := Lib.hid (check_any A0 len cap0 L v4 hX4.nd hX4.hlen hX4.u (by have := HL1.out; omega))
  clear har4 hq4 hf4 hm4 h4 HPU hX4
  go_wp2_with fail
  refine HCK.out.mono ?_
  rintro e v5 ⟨rfl, hb5⟩
  rw [HE.out]
  have h5 := H4.out.below hb5
  have H5 := Lib.hid h5
  have HLn := Lib.hid (len_any h5.a.ar)
  clear hb5 h5
  have hE1 : (E != 0) = true := by simpa using HC.out
  go_wp2_with (go_at_call 18; refine HLn.out.mono ?_; rintro e w' ⟨rfl, rfl⟩)
  go_ret
  exact ⟨rfl, H5.out.a.bel⟩
end Go.Proofs.Ytdbcpnpcnkccaaa
namespace Go.Proofs.Ytdbcpnpcnkccaaa
set_option maxRecDepth 100000
open Go.RowKit Go.Maps

/-- What the middle loop has seen. -/
def Tm.Us (T : List Tm.Nd) (k i : Nat) : Prop := k + 1 = T.length ∨ ∃ q, k < q ∧ q < i ∧ Tm.IsKid (T.getD q Tm.z) k
def Tm.kid (nd : Tm.Nd) (c : Nat) : Int := if c = 0 then nd.a else if c = 1 then nd.b else nd.c
def Tm.Ki (nd : Tm.Nd) (k c : Nat) : Prop := ∃ j, j < c ∧ Tm.kid nd j = (k : Int)

theorem Tm.ki_succ {nd : Tm.Nd} {k c : Nat} : Tm.Ki nd k (c + 1) ↔ Tm.Ki nd k c ∨ Tm.kid nd c = (k : Int) := by
  constructor
  · rintro ⟨j, hj, e⟩
    rcases Nat.lt_succ_iff_lt_or_eq.1 hj with h | h
    · exact .inl ⟨j, h, e⟩
    · exact .inr (h ▸ e)
  · rintro (⟨j, hj, e⟩ | e)
    · exact ⟨j, by omega, e⟩
    · exact ⟨c, by omega, e⟩
theorem Tm.ki_all {nd : Tm.Nd} {k i : Nat} (h : Tm.kok nd i = true) : Tm.Ki nd k (Tm.kidn nd.op) ↔ Tm.IsKid nd k := by
  obtain ⟨k0, k1, k2⟩ := Tm.kok_in h
  have h3 := Tm.kidn_le nd.op
  constructor
  · rintro ⟨j, hj, e⟩
    have hj3 : j = 0 ∨ j = 1 ∨ j = 2 := by omega
    rcases hj3 with rfl | rfl | rfl
    · have e : nd.a = (k : Int) := e
      exact .inl ⟨by omega, by omega⟩
    · have e : nd.b = (k : Int) := e
      exact .inr (.inl ⟨by omega, by omega⟩)
    · have e : nd.c = (k : Int) := e
      exact .inr (.inr ⟨by omega, by omega⟩)
  · rintro (⟨c, e⟩ | ⟨c, e⟩ | ⟨c, e⟩)
    · exact ⟨0, by omega, by have := k0 c; show nd.a = _; omega⟩
    · exact ⟨1, by omega, by have := k1 c; show nd.b = _; omega⟩
    · exact ⟨2, by omega, by have := k2 c; show nd.c = _; omega⟩
theorem Tm.us_succ {T : List Tm.Nd} {k i : Nat} (h : k < i) : Tm.Us T k (i + 1) ↔ Tm.Us T k i ∨ Tm.IsKid (T.getD i Tm.z) k := by
  constructor
  · rintro (e | ⟨q, h1, h2, h3⟩)
    · exact .inl (.inl e)
    · rcases Nat.lt_succ_iff_lt_or_eq.1 h2 with h4 | h4
      · exact .inl (.inr ⟨q, h1, h4, h3⟩)
      · exact .inr (h4 ▸ h3)
  · rintro ((e | ⟨q, h1, h2, h3⟩) | e)
    · exact .inl e
    · exact .inr ⟨q, h1, by omega, h3⟩
    · exact .inr ⟨i, h, by omega, e⟩
theorem Tm.b_step {b : Bool} {nd : Tm.Nd} {k c : Nat} (h : false = true ↔ b = true ∨ Tm.Ki nd k c) : decide (Tm.kid nd c = (k : Int)) = true ↔ b = true ∨ Tm.Ki nd k (c + 1) := by
  rw [decide_eq_true_eq, Tm.ki_succ]
  exact ⟨fun e => .inr (.inr e), fun e => by
    rcases e with e | e | e
    · exact absurd (h.2 (.inl e)) (by simp)
    · exact absurd (h.2 (.inr e)) (by simp)
    · exact e⟩

set_option maxRecDepth 100000 in
set_option maxHeartbeats 8000000 in
theorem back_good (A0 : Option Addr) (len cap0 : Nat) (L : List Tm.Nd) (w : World) (hx : NdSl w A0 len cap0 L) (h1 : len ≤ 300) (hc : (Tm.chk L).1 = 0) :
    Calls Try.prog 3 #[.slice A0 len cap0] w fun e w' => e = .returned (.bool true) ∧ Below w.heap.size w w' := by
  have h1' : ¬ (300 : Int) < len := by omega
  have HX := Lib.hid hx
  have HL1 := Lib.hid h1
  have HLL := Lib.hid hx.hlen
  have HC := Lib.hid hc
  clear hx h1 hc
  go_enter Try.func3, Try.ntmps3
  go_wp2_with fail
  refine (awake_any _).mono ?_
  rintro e v ⟨rfl, hb⟩
  have HB := Lib.hid hb
  clear hb
  go_wp2_with fail
  refine (new_any v).mono ?_
  rintro e v1 ⟨g, bm, rfl, hA, hb, hg, hbm⟩
  have HA := Lib.hid hA
  have Hb := Lib.hid hb
  have Hg := Lib.hid hg
  have Hbm := Lib.hid hbm
  clear hA hb hg hbm
  go_wp2_with fail
  refine (new_any v1).mono ?_
  rintro e v2 ⟨g', bm', rfl, hA', hb', hg', hbm'⟩
  have h2 : Ab w.heap.size w v2 g bm none 0 [] 0 g' bm' none 0 [] 0 := Ab.new HB.out HB.out.size HA.out Hb.out Hg.out Hbm.out hA' hb' hg' hbm'
  have H2 := Lib.hid h2
  clear hA' hb' hg' hbm' HB HA Hb Hg Hbm
  have HPU := Lib.hid (put_any g bm none 0 [] 0 A0 len cap0 L v2 h2.a.ar (Bs.old h2.a rfl HX.out) (by have := HL1.out; omega) (by simp) (by omega))
  clear h2
  have HPL := Lib.hid (show (Tm.putL [] L).length ≤ len by have := (Tm.putL_pre [] L).2; have := HLL.out; simp at *; omega)
  obtain ⟨p, ep, hp⟩ := Tm.putR_at (X := []) HC.out
  generalize hX1 : Tm.putL [] L = X1 at *
  have HX1e := Lib.hid hX1
  have HEP := Lib.hid ep
  have HP := Lib.hid hp
  clear hX1 ep hp
  go_wp2_with fail
  refine HPU.out.mono ?_
  rintro e v4 ⟨A4, cap4, q4, rfl, har4, hq4, hf4, hm4⟩
  rw [HX1e.out] at har4
  rw [HEP.out, HC.out]
  have h4 := H2.out.fr har4 hf4 hm4
  have H4 := Lib.hid h4
  have HQ4 := Lib.hid (show q4 ≤ 300 by have := HLL.out; have := HL1.out; omega)
  have hX4 := HX.out.below h4.a.bel
  have HCK := Lib.hid (check_any A0 len cap0 L v4 hX4.nd hX4.hlen hX4.u (by have := HL1.out; omega))
  clear har4 hq4 hf4 hm4 h4 HPU hX4
  go_wp2_with fail
  refine HCK.out.mono ?_
  rintro e v5 ⟨rfl, hb5⟩
  rw [HC.out]
  have h5 := H4.out.below hb5
  have H5 := Lib.hid h5
  have T1 := Lib.hid (term_in g bm A4 cap4 X1 q4 p v5 h5.a.ar HP.out (by have := HPL.out; have := HL1.out; omega))
  clear hb5 h5 HCK
  go_wp2_with fail
  refine T1.out.mono ?_
  rintro e v6 ⟨A6, cap6, rfl, hr6, hb6⟩
  have h6 := H5.out.below hb6
  have hs6 : NdSl v6 A6 (Tm.term X1 p).length cap6 (Tm.term X1 p) := NdSl.of_own hr6 (Tm.term_wf H5.out.a.ar.wf (p := p) (by have := HP.out; have := HPL.out; have := HL1.out; omega))
  have hbs6 : Bs v6 g bm A4 A6 (Tm.term X1 p).length cap6 (Tm.term X1 p) := Bs.new H5.out.a.ar hs6 (fun k hk => own_ge hr6 k (by rw [own_is]; exact hk))
  have hbt6 : Bs v6 g' bm' none A6 (Tm.term X1 p).length cap6 (Tm.term X1 p) := Bs.new H5.out.b hs6 (fun k hk => own_ge hr6 k (by rw [own_is]; exact hk))
  have H6 := Lib.hid h6
  have HS6 := Lib.hid hs6
  have HBS := Lib.hid hbs6
  have HBT := Lib.hid hbt6
  have HV6 := Lib.hid (fun k (hk : oblk A6 = some k) => own_ge hr6 k (by rw [own_is]; exact hk))
  clear hr6 hb6 h6 hs6 hbs6 hbt6 T1
  have HTP := Lib.hid (Tm.term_pos X1 p)
  have HTO := Lib.hid (Tm.term_ok H6.out.a.ar.ok HP.out)
  have HTC := Lib.hid (Tm.term_chk H6.out.a.ar.ok HP.out)
  have HTU := Lib.hid (fun t => Tm.term_used H6.out.a.ar.ok HP.out (t := t))
  have HTI := Lib.hid (fun t t' => Tm.term_inj H6.out.a.ar.ok H6.out.a.ar.nodup HP.out (t := t) (t' := t'))
  have HTB := Lib.hid (Tm.put_back H6.out.a.ar.ok H6.out.a.ar.nodup HP.out)
  have HTL := Lib.hid (show (Tm.term X1 p).length ≤ p + 1 from Tm.tst_len _ _ _)
  generalize hT : Tm.term X1 p = T at *
  clear hT
  obtain ⟨m, hm⟩ : ∃ m, T.length = m := ⟨_, rfl⟩
  have HM := Lib.hid hm
  rw [hm] at HS6 HBS HBT HTL HTP ⊢
  clear hm
  have hle : decide (len < m) = false := decide_eq_false (by have := HTL.out; have := HP.out; have := HPL.out; omega)
  have HCT := Lib.hid (check_any A6 m cap6 T v6 HS6.out.nd HS6.out.hlen HS6.out.u (by have := HTL.out; have := HP.out; have := HPL.out; have := HL1.out; omega))
  go_wp2_with fail
  refine HCT.out.mono ?_
  rintro e v7 ⟨rfl, hb7⟩
  rw [HTC.out]
  have H7 := Lib.hid (H6.out.below hb7)
  have HS7 := Lib.hid (HS6.out.below hb7)
  have HBS7 := Lib.hid (HBS.out.below hb7)
  have HBT7 := Lib.hid (HBT.out.below hb7)
  clear hb7 HCT HS6 HBS HBT H6
  have hmr : (m : Int) ≤ 301 := by have := HTL.out; have := HP.out; have := HPL.out; have := HL1.out; omega
  go_wp2_with fail
  go_loopw [12] (fun t wr => ∃ k : Nat, k ≤ m ∧ t = .int .i64 k ∧ ∃ n, wr = v7.drewN n) (fun t _ => m - (intOf t).toNat)
  case atStart => exact ⟨0, Nat.zero_le _, rfl, 0, rfl⟩
  case round =>
    obtain ⟨k, hk, rfl, nn, rfl⟩ := hrel
    by_cases hlt : k < m
    · have hk1 : (k : Int) < m := by omega
      have hk0 : (0 : Int) ≤ k := by omega
      go_wp2_with fail
      go_loopw [13, 14] (fun u t wr => ∃ (i : Nat) (b : Bool), k < i ∧ i ≤ m ∧ t = .int .i64 i ∧ u = .bool b ∧ (b = true ↔ Tm.Us T k i) ∧ ∃ n, wr = v7.drewN n) (fun _ t _ => m - (intOf t).toNat)
      case atStart =>
        refine ⟨k + 1, decide ((k : Int) = (m : Int) - 1), by omega, by omega, by go_num, ?_, ?_, nn, rfl⟩
        · first | rfl | (congr 1; rw [Bool.eq_iff_iff]; simp)
        · simp only [decide_eq_true_eq, Tm.Us, HM.out]
          refine ⟨fun h => .inl (by omega), fun h => ?_⟩
          rcases h with h | ⟨q, h1, h2, _⟩
          · omega
          · omega
      case round =>
        obtain ⟨i, b, hki, him, rfl, rfl, hus, n2, rfl⟩ := hrel
        have HUS := Lib.hid hus
        clear hus
        by_cases hil : i < m
        · obtain ⟨bb, oo, rfl, hbb, hxx⟩ := HS7.out.nd.mem (by omega)
          obtain ⟨x0, x1, x2, x3, x4, x5⟩ := hxx i hil
          obtain ⟨y0, y1, y2, y3, y4, y5⟩ := hxx k hlt
          have hi1 : (i : Int) < m := by omega
          have hi0 : (0 : Int) ≤ i := by omega
          obtain ⟨md, hmd⟩ : ∃ md, T.getD i Tm.z = md := ⟨_, rfl⟩
          obtain ⟨nd, hnd⟩ : ∃ nd, T.getD k Tm.z = nd := ⟨_, rfl⟩
          rw [hmd] at x0 x1 x2 x3 x4 x5
          rw [hnd] at y0 y1 y2 y3 y4 y5
          have HMD := Lib.hid hmd
          have hne : md ≠ nd := fun e => by
            have := HTI.out i k (by rw [HM.out]; omega) (by rw [HM.out]; omega) (by rw [hmd, hnd, e])
            omega
          have HKO := Lib.hid (show Tm.kok md i = true by rw [← hmd]; exact HTO.out.kok (by rw [HM.out]; omega))
          clear hxx hmd hnd
          obtain ⟨op', v', n', a', b', c'⟩ := md
          obtain ⟨op, v, n, a, b0, c⟩ := nd
          dsimp only at x0 x1 x2 x3 x4 x5 y0 y1 y2 y3 y4 y5
          have heq := run_eql op' v' n' a' b' c' op v n a b0 c
          have hsm : Tm.sm ⟨op', v', n', a', b', c'⟩ ⟨op, v, n, a, b0, c⟩ = false := decide_eq_false hne
          rw [hsm] at heq
          clear hsm hne
          go_wp2_with fail
          go_quiet (fail)
          clear heq y0 y1 y2 y3 y4 y5
          go_wp2_with fail
          go_loopw [13, 15] (fun u t wr => ∃ (j : Nat) (b2 : Bool), j ≤ Tm.kidn op' ∧ t = .int .i64 j ∧ u = .bool b2 ∧ (b2 = true ↔ b = true ∨ Tm.Ki ⟨op', v', n', a', b', c'⟩ k j) ∧ ∃ n, wr = v7.drewN n) (fun _ t _ => Tm.kidn op' - (intOf t).toNat)
          case atStart => exact ⟨0, b, Nat.zero_le _, rfl, rfl, ⟨.inl, fun h => h.elim id fun ⟨_, hj, _⟩ => absurd hj (by omega)⟩, n2 + nq, by first | rfl | rw [World.drewN_drewN]⟩
          case round =>
            obtain ⟨j, b2, hjk, rfl, rfl, hb2, n3, rfl⟩ := hrel
            have HB2 := Lib.hid hb2
            have hk3 := Tm.kidn_le op'
            clear hb2
            by_cases hjl : j < Tm.kidn op'
            · have hj1 : (j : Int) < (Tm.kidn op' : Nat) := by omega
              have HJ := Lib.hid hjl
              cases b2 with
              | true =>
                go_wp2_with (go_at_call 20; refine (rkids_any op' _).mono ?_; rintro e w' ⟨rfl, rfl⟩)
                go_roundw
                case rel =>
                  exact ⟨j + 1, true, by omega, by go_num, rfl, ⟨fun _ => (HB2.out.1 (by first | rfl | trivial)).imp id fun ⟨q, hq, e⟩ => ⟨q, by omega, e⟩, fun _ => by first | rfl | trivial⟩, n3, rfl⟩
                case measure => simp [intOf]; omega
              | false =>
                have hj3 : j = 0 ∨ j = 1 ∨ j = 2 := by omega
                rcases hj3 with rfl | rfl | rfl
                · go_wp2_with (go_at_call 20; refine (rkids_any op' _).mono ?_; rintro e w' ⟨rfl, rfl⟩)
                  go_roundw
                  case rel =>
                    refine ⟨0 + 1, decide (a' = (k : Int)), HJ.out, by go_num, ?_, Tm.b_step HB2.out, n3, rfl⟩
                    first | rfl | (congr 1; rw [Bool.eq_iff_iff]; simp)
                  case measure => simp [intOf]; omega
                · go_wp2_with (go_at_call 20; refine (rkids_any op' _).mono ?_; rintro e w' ⟨rfl, rfl⟩)
                  go_roundw
                  case rel =>
                    refine ⟨1 + 1, decide (b' = (k : Int)), HJ.out, by go_num, ?_, Tm.b_step HB2.out, n3, rfl⟩
                    first | rfl | (congr 1; rw [Bool.eq_iff_iff]; simp)
                  case measure => simp [intOf]; omega
                · go_wp2_with (go_at_call 20; refine (rkids_any op' _).mono ?_; rintro e w' ⟨rfl, rfl⟩)
                  go_roundw
                  case rel =>
                    refine ⟨2 + 1, decide (c' = (k : Int)), HJ.out, by go_num, ?_, Tm.b_step HB2.out, n3, rfl⟩
                    first | rfl | (congr 1; rw [Bool.eq_iff_iff]; simp)
                  case measure => simp [intOf]; omega
            · have hje : j = Tm.kidn op' := by omega
              subst hje
              go_wp2_with (go_at_call 20; refine (rkids_any op' _).mono ?_; rintro e w' ⟨rfl, rfl⟩)
              go_roundw
              case rel =>
                refine ⟨i + 1, b2, by omega, by omega, by go_num, rfl, ?_, n3, rfl⟩
                rw [HB2.out, HUS.out, Tm.us_succ hki, HMD.out]
                exact or_congr_right (Tm.ki_all HKO.out)
              case measure => simp [intOf]; omega
        · have hie : i = m := by omega
          subst hie
          have hbt : b = true := HUS.out.2 (by
            rcases Nat.lt_or_ge (k + 1) i with h | h
            · obtain ⟨q, h1, h2, h3⟩ := HTU.out k (by rw [HM.out]; exact h)
              exact .inr ⟨q, h1, by rw [HM.out] at h2; exact h2, h3⟩
            · exact .inl (by rw [HM.out]; omega))
          subst hbt
          go_wp2
          go_roundw
          case rel => exact ⟨k + 1, by omega, by go_num, n2, rfl⟩
          case measure => simp [intOf]; omega
    · have hke : k = m := by omega
      subst hke
      have hb8 : Below v7.heap.size v7 (v7.drewN nn) := below_drewN (Below.refl _ _) nn
      have h8 := H7.out.below hb8
      have H8 := Lib.hid h8
      have HB8 := Lib.hid (HBS7.out.below hb8)
      have HLn := Lib.hid (len_any h8.a.ar)
      have HPU := Lib.hid (put_any g bm A4 cap4 X1 q4 A6 k cap6 T _ h8.a.ar (HBS7.out.below hb8) (by omega) (by have := HPL.out; have := HL1.out; omega) (by have := HQ4.out; omega))
      obtain ⟨r, hr⟩ : ∃ r, T.length - 1 = r := ⟨_, rfl⟩
      have HR := Lib.hid hr
      have hrk : (k : Int) - 1 = (r : Int) := by have := HM.out; have := HTP.out; omega
      have HPSf := Lib.hid (Tm.put_self HTO.out (fun t t' a b => HTI.out t t' a b) (by have := HM.out; have := HTP.out; omega))
      have HTS := Lib.hid (Tm.term_self HTO.out HTU.out (by have := HM.out; have := HTP.out; omega))
      rw [hr] at HPSf HTS
      clear hb8 h8 hr
      go_wp2_with (go_at_call 18; refine HLn.out.mono ?_; rintro e w' ⟨rfl, rfl⟩)
      refine HPU.out.mono ?_
      rintro e v8 ⟨A8, cap8, q8, rfl, har8, hq8, hf8, hm8⟩
      rw [HTB.out.1] at har8
      rw [HTB.out.2, HTC.out]
      have h9 := H8.out.fr har8 hf8 hm8
      have H9 := Lib.hid h9
      have hbt8 : Bs v8 g' bm' none A6 k cap6 T := ⟨(HB8.out.make hf8 hm8).sl, HBT7.out.ne⟩
      have HBT8 := Lib.hid hbt8
      have HPV := Lib.hid (put_any g' bm' none 0 [] 0 A6 k cap6 T v8 h9.b hbt8 (by omega) (by simp) (by omega))
      clear har8 hq8 hf8 hm8 h9 hbt8 HPU
      go_wp2_with fail
      refine HPV.out.mono ?_
      rintro e v9 ⟨A9, cap9, q9, rfl, har9, hq9, hf9, hm9⟩
      rw [HPSf.out.1] at har9
      rw [HPSf.out.2, HTC.out]
      have h10 := H9.out.swap.fr har9 hf9 hm9
      have H10 := Lib.hid h10
      have HSl := Lib.hid (HBT8.out.make hf9 hm9).sl
      have HLa := Lib.hid (len_any h10.b)
      have HLb := Lib.hid (len_any h10.a.ar)
      rw [HM.out] at HLb
      have T2 := Lib.hid (term_in g' bm' A9 cap9 T q9 r v9 h10.a.ar (by have := HR.out; have := HM.out; have := HTP.out; omega) (by rw [HM.out]; omega))
      rw [HTS.out] at T2
      clear har9 hq9 hf9 hm9 h10 HPV
      dsimp only
      go_wp2_with fail
      refine HLa.out.mono ?_
      rintro e w' ⟨rfl, rfl⟩
      go_wp2_with fail
      refine HLb.out.mono ?_
      rintro e w' ⟨rfl, rfl⟩
      go_wp2_with fail
      refine T2.out.mono ?_
      rintro e Wa ⟨At, ct, rfl, hr1, hc1⟩
      have S2 := Lib.hid (same_any At _ ct _ A6 k cap6 T Wa (NdSl.of_own hr1 HSl.out.wf) (HSl.out.below hc1))
      have HAa := Lib.hid (H10.out.below hc1)
      clear hr1 hc1
      go_wp2_with fail
      refine S2.out.mono ?_
      rintro e Wc ⟨rfl, nn2, rfl⟩
      simp only [decide_true]
      go_wp2_with fail
      go_ret
      exact ⟨rfl, (HAa.out.below (below_drewN (Below.refl _ _) nn2)).a.bel⟩

theorem back_walk (A0 : Option Addr) (len cap0 : Nat) (L : List Tm.Nd) (w : World) (hx : NdSl w A0 len cap0 L) :
    Calls Try.prog 3 #[.slice A0 len cap0] w fun e w' => e = .returned (.bool true) ∧ Below w.heap.size w w' := by
  by_cases h : 300 < len
  · exact back_long A0 len cap0 w h
  · by_cases hc : (Tm.chk L).1 = 0
    · exact back_good A0 len cap0 L w hx (by omega) hc
    · exact back_bad A0 len cap0 L w hx (by omega) hc
end Go.Proofs.Ytdbcpnpcnkccaaa
