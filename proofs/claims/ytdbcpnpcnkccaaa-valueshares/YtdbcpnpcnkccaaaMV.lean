/-
  Layer 7, plain: a term that stands elsewhere has the same values.
  The walk of ValueShares.
-/
import Derived.Test.YtdbcpnpcnkccaaaMT
import Derived.Test.YtdbcpnpcnkccaaaMU
set_option linter.unusedSimpArgs false
set_option linter.unusedVariables false
namespace Go.Proofs.Ytdbcpnpcnkccaaa
set_option maxRecDepth 100000
open Go.RowKit Go.Maps

theorem Vl.vals_self {X : List Tm.Nd} {e : Vl.Env} (h : Tm.Ok X X.length) {j : Nat} (hj : j < X.length) : (Vl.vals X e X.length).getD j 0 = Vl.one X (Vl.vals X e X.length) e (X.getD j Tm.z) := by
  rw [Vl.vals_at X e hj]
  exact Vl.one_congr (m := j) (Vl.kd_of h hj) (Vl.down_of fun t ht => h t (by omega)) (fun _ _ => rfl) (fun t ht => (Vl.vals_pre X e ht X.length (by omega)).symm)

/-- Of nodes whose kids stand elsewhere the values are the same. -/
theorem Vl.one_moved {X Y : List Tm.Nd} {VX VY : List Int} {e : Vl.Env} {nd : Tm.Nd} {f : Nat → Nat} {m : Nat} (hk : Tm.kok nd m = true) (ho : 0 ≤ nd.op ∧ nd.op ≤ 24)
    (hv : ∀ t, Tm.IsKid nd t → VY.getD (f t) 0 = VX.getD t 0 ∧ (Y.getD (f t) Tm.z).w = (X.getD t Tm.z).w ∧ ∀ k, Vl.get Y VY e.mem (f t + 1) (f t) k = Vl.get X VX e.mem (t + 1) t k) :
    Vl.one Y VY e (Tm.mvd nd fun t => (f t : Int)) = Vl.one X VX e nd := by
  obtain ⟨k1, k2, k3⟩ := Tm.kok_in hk
  have hkb := Tm.kok_b hk
  have hs := Tm.kidn_spec nd.op
  have va : 1 ≤ Tm.kidn nd.op → Tm.IsKid nd nd.a.toNat := fun h => .inl ⟨h, rfl⟩
  have vb : 2 ≤ Tm.kidn nd.op → Tm.IsKid nd nd.b.toNat := fun h => .inr (.inl ⟨h, rfl⟩)
  have vc : 3 ≤ Tm.kidn nd.op → Tm.IsKid nd nd.c.toNat := fun h => .inr (.inr ⟨h, rfl⟩)
  have ea : 1 ≤ Tm.kidn nd.op → (Tm.mvd nd fun t => (f t : Int)).a = (f nd.a.toNat : Int) := fun h => if_pos h
  have eb : 2 ≤ Tm.kidn nd.op → (Tm.mvd nd fun t => (f t : Int)).b = (f nd.b.toNat : Int) := fun h => if_pos h
  have ec : 3 ≤ Tm.kidn nd.op → (Tm.mvd nd fun t => (f t : Int)).c = (f nd.c.toNat : Int) := fun h => if_pos h
  have eo : (Tm.mvd nd fun t => (f t : Int)).op = nd.op := rfl
  have en : (Tm.mvd nd fun t => (f t : Int)).n = nd.n := rfl
  unfold Vl.one
  rw [eo, en]
  by_cases h : nd.op = 0
  · rw [if_pos h, if_pos h]
  rw [if_neg h, if_neg h]
  by_cases h1 : nd.op = 1
  · rw [if_pos h1, if_pos h1]
  rw [if_neg h1, if_neg h1]
  by_cases h2 : nd.op = 2
  · rw [if_pos h2, if_pos h2]
  rw [if_neg h2, if_neg h2]
  by_cases h3 : nd.op = 3 ∨ nd.op = 4 ∨ nd.op = 24
  · rw [if_pos h3, if_pos h3]
  rw [if_neg h3, if_neg h3]
  have hk1 : 1 ≤ Tm.kidn nd.op := by omega
  have ha := hv _ (va hk1)
  rw [ea hk1, Int.toNat_natCast]
  by_cases h6 : nd.op = 6
  · rw [if_pos h6, if_pos h6, ha.1]
  rw [if_neg h6, if_neg h6]
  by_cases h7 : nd.op = 7
  · rw [if_pos h7, if_pos h7, ha.1]
  rw [if_neg h7, if_neg h7]
  by_cases h22 : nd.op = 22
  · have hk3 : 3 ≤ Tm.kidn nd.op := by omega
    rw [if_pos h22, if_pos h22, ha.1, eb (by omega), ec hk3, Int.toNat_natCast, Int.toNat_natCast, (hv _ (vb (by omega))).1, (hv _ (vc hk3)).1]
  rw [if_neg h22, if_neg h22]
  by_cases h23 : nd.op = 23
  · have hk2 : 2 ≤ Tm.kidn nd.op := by omega
    rw [if_pos h23, if_pos h23, eb hk2, Int.toNat_natCast, (hv _ (vb hk2)).1, ha.2.2]
    congr 1
    have := (k1 hk1).1
    omega
  rw [if_neg h23, if_neg h23, ha.1]
  have ew : Tm.wd Y (f nd.a.toNat : Int) = Tm.wd X nd.a := by rw [Tm.wd, Tm.wd, Int.toNat_natCast, ha.2.1]
  rw [ew]
  by_cases h5 : nd.op = 5
  · rw [h5]; exact Vl.app_not
  · have hk2 : 2 ≤ Tm.kidn nd.op := by omega
    rw [eb hk2, Int.toNat_natCast, (hv _ (vb hk2)).1]

theorem Vl.embed {X Y : List Tm.Nd} {e : Vl.Env} {D : Nat → Prop} {f : Nat → Nat} (hX : Tm.Ok X X.length) (hY : Tm.Ok Y Y.length)
    (hD : ∀ j, D j → j < X.length ∧ f j < Y.length ∧ Y.getD (f j) Tm.z = Tm.mvd (X.getD j Tm.z) (fun t => (f t : Int)) ∧ ∀ t, Tm.IsKid (X.getD j Tm.z) t → D t) :
    ∀ j, D j → (Vl.vals Y e Y.length).getD (f j) 0 = (Vl.vals X e X.length).getD j 0 ∧ (Y.getD (f j) Tm.z).w = (X.getD j Tm.z).w ∧ ∀ k, Vl.get Y (Vl.vals Y e Y.length) e.mem (f j + 1) (f j) k = Vl.get X (Vl.vals X e X.length) e.mem (j + 1) j k := by
  intro j
  induction j using Nat.strongRecOn with
  | _ j ih =>
    intro hd
    obtain ⟨hj, hfj, hy, hkid⟩ := hD j hd
    have hkk := (Tm.flt_zero (show Tm.flt (X.getD j Tm.z) j X = 0 from hX j hj))
    have hkok := hkk.2.2.1
    have hv : ∀ t, Tm.IsKid (X.getD j Tm.z) t → (Vl.vals Y e Y.length).getD (f t) 0 = (Vl.vals X e X.length).getD t 0 ∧ (Y.getD (f t) Tm.z).w = (X.getD t Tm.z).w ∧ ∀ k, Vl.get Y (Vl.vals Y e Y.length) e.mem (f t + 1) (f t) k = Vl.get X (Vl.vals X e X.length) e.mem (t + 1) t k :=
      fun t ht => ih t (ht.lt hkok) (hkid t ht)
    refine ⟨?_, by rw [hy]; rfl, fun k => ?_⟩
    · rw [Vl.vals_self hY hfj, Vl.vals_self hX hj, hy]
      exact Vl.one_moved hkok ⟨hkk.1, hkk.2.1⟩ hv
    · rw [Vl.get, Vl.get]
      simp only [Int.toNat_natCast, hy]
      have eo : (Tm.mvd (X.getD j Tm.z) fun t => (f t : Int)).op = (X.getD j Tm.z).op := rfl
      rw [eo]
      by_cases h24 : (X.getD j Tm.z).op = 24
      · have hk3 : Tm.kidn (X.getD j Tm.z).op = 3 := by rw [h24]; decide
        have ea : (Tm.mvd (X.getD j Tm.z) fun t => (f t : Int)).a = (f (X.getD j Tm.z).a.toNat : Int) := if_pos (by omega)
        have eb : (Tm.mvd (X.getD j Tm.z) fun t => (f t : Int)).b = (f (X.getD j Tm.z).b.toNat : Int) := if_pos (by omega)
        have ec : (Tm.mvd (X.getD j Tm.z) fun t => (f t : Int)).c = (f (X.getD j Tm.z).c.toNat : Int) := if_pos (by omega)
        have ka : Tm.IsKid (X.getD j Tm.z) (X.getD j Tm.z).a.toNat := .inl ⟨by omega, rfl⟩
        rw [if_pos h24, if_pos h24, ea, eb, ec, Int.toNat_natCast, Int.toNat_natCast, (hv _ (.inr (.inl ⟨by omega, rfl⟩))).1, (hv _ (.inr (.inr ⟨by omega, rfl⟩))).1]
        have hda := hkid _ ka
        have hla := ka.lt hkok
        have hfa : f (X.getD j Tm.z).a.toNat < f j := by
          have hk2 := (Tm.flt_zero (show Tm.flt (Y.getD (f j) Tm.z) (f j) Y = 0 from hY _ hfj)).2.2.1
          rw [hy] at hk2
          have := ((Tm.kok_in hk2).1 (by rw [eo]; omega)).2
          rw [ea] at this
          omega
        have hdx : Vl.Down X X.length := Vl.down_of hX
        have hdy : Vl.Down Y Y.length := Vl.down_of hY
        have hta : (((X.getD j Tm.z).a.toNat : Nat) : Int) = (X.getD j Tm.z).a := by
          have := ((Tm.kok_in hkok).1 (by omega)).1
          omega
        rw [Vl.get_fuel hdy (f j) (f (X.getD j Tm.z).a.toNat) (by omega) hfa, (hv _ ka).2.2, ← hta, Vl.get_fuel hdx j _ (by omega) (by omega)]
        rw [Int.toNat_natCast]
      · rw [if_neg h24, if_neg h24]

/-- The same root: the same values, the same bytes. -/
theorem Vl.root_same {X Y : List Tm.Nd} {e : Vl.Env} (hX : (Tm.chk X).1 = 0) (hY : (Tm.chk Y).1 = 0)
    (hw : (Y.getD (Y.length - 1) Tm.z).w = (X.getD (X.length - 1) Tm.z).w) (hv : (Vl.vals Y e Y.length).getD (Y.length - 1) 0 = (Vl.vals X e X.length).getD (X.length - 1) 0)
    (hg : ∀ k, Vl.get Y (Vl.vals Y e Y.length) e.mem (Y.length - 1 + 1) ((Y.length - 1 : Nat) : Int) k = Vl.get X (Vl.vals X e X.length) e.mem (X.length - 1 + 1) ((X.length - 1 : Nat) : Int) k) :
    Vl.ofR Y e = Vl.ofR X e ∧ ∀ k, Vl.byR Y e k = Vl.byR X e k := by
  have h1 := (Tm.chk_ok_iff hX).1
  have h2 := (Tm.chk_ok_iff hY).1
  have e1 : X.length - 1 + 1 = X.length := by omega
  have e2 : Y.length - 1 + 1 = Y.length := by omega
  rw [e1, e2] at hg
  constructor
  · rw [Vl.ofR, Vl.ofR, if_neg (show ¬ (Tm.chk Y).1 ≠ 0 by simpa using hY), if_neg (show ¬ (Tm.chk X).1 ≠ 0 by simpa using hX), hw, hv]
  · intro k
    rw [Vl.byR, Vl.byR, if_neg (show ¬ (Tm.chk Y).1 ≠ 0 by simpa using hY), if_neg (show ¬ (Tm.chk X).1 ≠ 0 by simpa using hX), hw, hg]

/-- What was put, and told again. -/
theorem Vl.shared {L : List Tm.Nd} {e : Vl.Env} (hc : (Tm.chk L).1 = 0) {p : Nat} (hp : Tm.putR [] L = (p : Int)) (hpl : p < (Tm.putL [] L).length) (hX : Tm.Ok (Tm.putL [] L) (Tm.putL [] L).length) (hT : (Tm.chk (Tm.term (Tm.putL [] L) p)).1 = 0) :
    Vl.ofR (Tm.term (Tm.putL [] L) p) e = Vl.ofR L e ∧ ∀ k, Vl.byR (Tm.term (Tm.putL [] L) p) e k = Vl.byR L e k := by
  obtain ⟨h0, hok⟩ := Tm.chk_ok_iff hc
  have hL : Tm.putL [] L = (Tm.pst [] L L.length).1 := if_pos hc
  have hR : (Tm.pst [] L L.length).2 (L.length - 1) = (p : Int) := by rw [← hp, Tm.putR, if_pos hc]
  generalize hZ : Tm.putL [] L = Z at *
  -- from the list into the arena
  have hstab : ∀ m k j, k ≤ m → m ≤ L.length → j < k → (Tm.pst [] L m).2 j = (Tm.pst [] L k).2 j := by
    intro m
    induction m with
    | zero => intro k j h1 _ h2; omega
    | succ m ih =>
      intro k j h1 h2 h3
      rcases Nat.lt_or_ge m k with h | h
      · have : k = m + 1 := by omega
        rw [this]
      · rw [← ih k j h (by omega) h3]
        show (if j = m then _ else _) = _
        rw [if_neg (by omega)]
  have hE : ∀ j, j < L.length → (Vl.vals Z e Z.length).getD ((Tm.pst [] L L.length).2 j).toNat 0 = (Vl.vals L e L.length).getD j 0 ∧ (Z.getD ((Tm.pst [] L L.length).2 j).toNat Tm.z).w = (L.getD j Tm.z).w ∧ ∀ k, Vl.get Z (Vl.vals Z e Z.length) e.mem (((Tm.pst [] L L.length).2 j).toNat + 1) (((Tm.pst [] L L.length).2 j).toNat : Nat) k = Vl.get L (Vl.vals L e L.length) e.mem (j + 1) j k := by
    refine Vl.embed (D := fun j => j < L.length) (f := fun j => ((Tm.pst [] L L.length).2 j).toNat) hok hX ?_
    intro j hj
    obtain ⟨i, hi1, hi2, hi3⟩ := Tm.pst_place (X := []) hok hj
    have hpre := Tm.pst_mono (X := []) hok (k := j + 1) L.length (by omega) (Nat.le_refl _)
    rw [← hL] at hpre
    have hij : (Tm.pst [] L L.length).2 j = (i : Int) := by rw [hstab L.length (j + 1) j (by omega) (Nat.le_refl _) (by omega)]; exact hi1
    have hlen := hpre.length_le
    rw [hij, Int.toNat_natCast]
    refine ⟨hj, by omega, ?_, fun t ht => ?_⟩
    · rw [Tm.pre_getD hpre hi2, hi3]
      refine Tm.mvd_congrK fun t ht => ?_
      have htj := ht.lt (hok.kok hj)
      obtain ⟨i', hi', _⟩ := (Tm.pst_all (X := []) hok j (by omega)).1 t htj
      rw [hstab L.length j t (by omega) (Nat.le_refl _) htj, hi']
      rfl
    · have := ht.lt (hok.kok hj); omega
  have hEr := hE (L.length - 1) (by omega)
  rw [hR, Int.toNat_natCast] at hEr
  -- from the arena into the term
  have hTo := (Tm.chk_ok_iff hT).2
  have hF := Vl.embed (e := e) (D := fun j => j ≤ p ∧ Tm.hang Z p j = true) (f := fun j => Tm.pos Z (Tm.hang Z p) j) hX hTo (fun j ⟨hjp, hj⟩ => ⟨by omega, (Tm.term_at hX hpl hj).1, (Tm.term_at hX hpl hj).2, fun t ht => ⟨by have := ht.lt (hX.kok (m := j) (by omega)); omega, Tm.hang_kid hX hpl hjp hj ht⟩⟩) p ⟨Nat.le_refl _, Tm.hang_root p⟩
  have hTl : (Tm.term Z p).length - 1 = Tm.pos Z (Tm.hang Z p) p := by rw [Tm.term_len]; omega
  refine Vl.root_same hc hT ?_ ?_ ?_
  · rw [hTl, hF.2.1, hEr.2.1]
  · rw [hTl, hF.1, hEr.1]
  · intro k
    rw [hTl, hF.2.2, hEr.2.2]
end Go.Proofs.Ytdbcpnpcnkccaaa
namespace Go.Proofs.Ytdbcpnpcnkccaaa
set_option maxRecDepth 100000
open Go.RowKit Go.Maps

set_option maxHeartbeats 16000000 in
theorem shares_walk (A0 : Option Addr) (len cap : Nat) (L : List Tm.Nd) (E : EnV) (e : Vl.Env) (k : Nat) (w : World) (hx : NdSl w A0 len cap L) (hE : EnIn w (fun _ => False) E e) (hk : k < 18446744073709551616) :
    Calls Try.prog 8 #[.slice A0 len cap, E.v, .int .u64 k] w fun en w' => en = .returned (.bool true) ∧ Below w.heap.size w w' := by
  have HX := Lib.hid hx
  have HE := Lib.hid hE
  have HK := Lib.hid hk
  have HB0 := Lib.hid (Ebx.new w E)
  clear hx hE hk
  rw [env_v]
  go_enter Try.func8, Try.ntmps8
  go_wp2_with fail
  generalize w.alloc (.cells #[.slice E.A1 E.n1 E.c1, .int .u64 E.r0, .int .u64 E.r1, .int .u64 E.r2, .int .u64 E.r3, .int .u64 E.r4, .int .u64 E.r5, .int .u64 E.r6, .int .u64 E.r7, .slice E.A2 E.n2 E.c2] 43) = W1 at *
  refine Calls.mono (vawake_any W1) ?_
  rintro en w1 ⟨rfl, hb⟩
  have HB1 := Lib.hid (HB0.out.next hb)
  clear hb HB0
  obtain ⟨f0, f1, f2, f3, f4, f5, f6, f7, f8, f9⟩ := HB1.out.env.cells
  go_wp2_with fail
  clear f0 f1 f2 f3 f4 f5 f6 f7 f8 f9
  have hg := great_any A0 len cap E w1
  rw [env_v] at hg
  refine Calls.mono hg ?_
  rintro en w2 ⟨rfl, hb⟩
  have HB2 := Lib.hid (HB1.out.next hb)
  clear hb HB1 hg
  by_cases hgr : 300 < len ∨ 100 < E.n1 ∨ 300 < E.n2
  · rw [decide_eq_true hgr]
    clear hgr
    go_wp2_with fail
    go_ret
    exact ⟨rfl, HB2.out.bel⟩
  rw [decide_eq_false hgr]
  have HL := Lib.hid (show len ≤ 300 by omega)
  clear hgr
  go_wp2_with fail
  refine (new_any w2).mono ?_
  rintro en v1 ⟨g, bm, rfl, hA, hb, hg, hbm⟩
  have h2 : Aw w2.heap.size w2 v1 g bm none 0 [] 0 := ⟨hA, hb, hg, hbm, fun k hk => by simp [oblk] at hk⟩
  have H2 := Lib.hid h2
  have HX2 := Lib.hid (HX.out.below HB2.out.bel)
  have HPU := Lib.hid (put_any g bm none 0 [] 0 A0 len cap L v1 h2.ar (Bs.old h2 rfl HX2.out) (by have := HL.out; omega) (by simp) (by omega))
  clear hA hb hg hbm h2
  by_cases hc : (Tm.chk L).1 = 0
  · have HC := Lib.hid hc
    have HPL := Lib.hid (show (Tm.putL [] L).length ≤ len by have := (Tm.putL_pre [] L).2; have := HX.out.hlen; simp at *; omega)
    obtain ⟨p, ep, hp⟩ := Tm.putR_at (X := []) HC.out
    have HEP := Lib.hid ep
    have HP := Lib.hid hp
    have HSH := Lib.hid (fun hX hT => Vl.shared (e := e) HC.out HEP.out HP.out hX hT)
    obtain ⟨X1, hX1⟩ : ∃ X1, Tm.putL [] L = X1 := ⟨_, rfl⟩
    rw [hX1] at HPL HP HSH
    have HX1e := Lib.hid hX1
    clear ep hp hc hX1
    go_wp2_with fail
    refine HPU.out.mono ?_
    rintro en v4 ⟨A4, cap4, q4, rfl, har4, hq4, hf4, hm4⟩
    rw [HX1e.out] at har4
    rw [HEP.out, HC.out]
    have h4 := H2.out.fr har4 hf4 hm4 (H2.out.bel.size)
    have H4 := Lib.hid h4
    have T1 := Lib.hid (term_in g bm A4 cap4 X1 q4 p v4 h4.ar HP.out (by have := HPL.out; have := HL.out; omega))
    clear har4 hq4 hf4 hm4 HPU H2
    go_wp2_with fail
    refine T1.out.mono ?_
    rintro en v6 ⟨A6, cap6, rfl, hr6, hb6⟩
    have HS6 := Lib.hid (NdSl.of_own hr6 (Tm.term_wf h4.ar.wf (p := p) (by have := HP.out; have := HPL.out; have := HL.out; omega)))
    have HTC := Lib.hid (Tm.term_chk h4.ar.ok HP.out)
    have hsh := HSH.out h4.ar.ok (by rw [HTC.out])
    have HTL := Lib.hid (show (Tm.term X1 p).length ≤ 65536 by have h := Tm.tst_len X1 (Tm.hang X1 p) (p + 1); have h2 : (Tm.term X1 p).length ≤ p + 1 := h; have := HP.out; have := HPL.out; have := HL.out; omega)
    have HB6 := Lib.hid (HB2.out.next (h4.bel.trans (hb6.mono h4.bel.size)))
    have HOF := Lib.hid hsh.1
    have HBY := Lib.hid (hsh.2 k)
    clear hr6 hb6 h4 T1 H4 hsh HSH HB2
    obtain ⟨T, hT⟩ : ∃ T, Tm.term X1 p = T := ⟨_, rfl⟩
    rw [hT] at HS6 HTC HTL HOF HBY
    obtain ⟨m, hm⟩ : ∃ m, T.length = m := ⟨_, rfl⟩
    rw [hT, hm]
    rw [hm] at HS6 HTL
    clear hT hm
    obtain ⟨f0, f1, f2, f3, f4, f5, f6, f7, f8, f9⟩ := HB6.out.env.cells
    have hc1 := vof_any A0 len cap L E e v6 (HX.out.below HB6.out.bel) (HE.out.keep (Keep.of_below HB6.out.bel)) (by have := HL.out; omega)
    rw [env_v] at hc1
    have HC1 := Lib.hid hc1
    clear hc1
    go_wp2_with fail
    clear f0 f1 f2 f3 f4 f5 f6 f7 f8 f9
    refine Calls.mono HC1.out ?_
    rintro en v7 ⟨rfl, hb⟩
    have HB7 := Lib.hid (HB6.out.next hb)
    have HS7 := Lib.hid (HS6.out.below hb)
    clear hb HC1 HB6 HS6
    obtain ⟨f0, f1, f2, f3, f4, f5, f6, f7, f8, f9⟩ := HB7.out.env.cells
    have hc1 := vof_any A6 m cap6 T E e v7 HS7.out (HE.out.keep (Keep.of_below HB7.out.bel)) HTL.out
    rw [env_v, HOF.out] at hc1
    have HC1 := Lib.hid hc1
    clear hc1
    go_wp2_with fail
    clear f0 f1 f2 f3 f4 f5 f6 f7 f8 f9
    refine Calls.mono HC1.out ?_
    rintro en v8 ⟨rfl, hb⟩
    have HB8 := Lib.hid (HB7.out.next hb)
    have HS8 := Lib.hid (HS7.out.below hb)
    clear hb HC1 HB7 HS7
    obtain ⟨f0, f1, f2, f3, f4, f5, f6, f7, f8, f9⟩ := HB8.out.env.cells
    have hc1 := byte_any A0 len cap L E e k v8 (HX.out.below HB8.out.bel) (HE.out.keep (Keep.of_below HB8.out.bel)) (by have := HL.out; omega) HK.out
    rw [env_v] at hc1
    have HC1 := Lib.hid hc1
    clear hc1
    go_wp2_with fail
    clear f0 f1 f2 f3 f4 f5 f6 f7 f8 f9
    refine Calls.mono HC1.out ?_
    rintro en v9 ⟨rfl, hb⟩
    have HB9 := Lib.hid (HB8.out.next hb)
    have HS9 := Lib.hid (HS8.out.below hb)
    clear hb HC1 HB8 HS8
    obtain ⟨f0, f1, f2, f3, f4, f5, f6, f7, f8, f9⟩ := HB9.out.env.cells
    have hc1 := byte_any A6 m cap6 T E e k v9 HS9.out (HE.out.keep (Keep.of_below HB9.out.bel)) HTL.out HK.out
    rw [env_v, HBY.out] at hc1
    have HC1 := Lib.hid hc1
    clear hc1
    go_wp2_with fail
    clear f0 f1 f2 f3 f4 f5 f6 f7 f8 f9
    refine Calls.mono HC1.out ?_
    rintro en v10 ⟨rfl, hb⟩
    have HBA := Lib.hid (HB9.out.next hb)
    clear hb HC1 HB9 HS9
    go_wp2_with fail
    go_ret
    exact ⟨rfl, HBA.out.bel⟩
  · have hcb : ((Tm.chk L).1 != 0) = true := by simpa using hc
    clear hc
    go_wp2_with fail
    refine HPU.out.mono ?_
    rintro en v4 ⟨A4, cap4, q4, rfl, har4, hq4, hf4, hm4⟩
    have h4 := H2.out.fr har4 hf4 hm4 (H2.out.bel.size)
    have HB4 := Lib.hid (HB2.out.next h4.bel)
    clear har4 hq4 hf4 hm4 h4 HPU
    go_wp2_with fail
    go_ret
    exact ⟨rfl, HB4.out.bel⟩
theorem shares_any (A0 : Option Addr) (len cap : Nat) (L : List Tm.Nd) (E : EnV) (e : Vl.Env) (x : Int) (w : World) (hx : NdSl w A0 len cap L) (hE : EnIn w (fun _ => False) E e) (hw : (Lit.int .u64 x).wf = true) :
    Calls Try.prog 8 #[.slice A0 len cap, E.v, .int .u64 x] w fun en w' => en = .returned (.bool true) ∧ Below w.heap.size w w' := by
  obtain ⟨k, rfl, hk⟩ := u64_nat hw
  exact shares_walk A0 len cap L E e k w hx hE hk
end Go.Proofs.Ytdbcpnpcnkccaaa
