/-
  Layer 7: contract of comesTo at OpGet and OpPut.
  Layer 7, plain: what each node of a term comes to, by its operation.
  Layer 7: contract of comesTo at any right node.
-/
import Derived.Test.YtdbcpnpcnkccaaaMH
set_option linter.unusedSimpArgs false
set_option linter.unusedVariables false
namespace Go.Proofs.Ytdbcpnpcnkccaaa
set_option maxRecDepth 100000
open Go.RowKit

set_option maxHeartbeats 8000000 in
theorem comes23 (v n c : Int) (ia ib : Nat) (p : Option Addr) (o : Value) (f : Int → Int) (y : Nat) (AX : Option Addr) (lx cx : Nat) (E : EnV) (bk ok len cap : Nat) (F : Nat → Prop) (w : World)
    (hia : ia < len) (q0 : w.cell? ⟨bk, ok + ia, none⟩ = some (.iface 107 (.agg #[.pointer p, o]))) (hib : ib < len) (q1 : w.cell? ⟨bk, ok + ib, none⟩ = some (.iface 103 (.int .u64 y))) (hbk : bk < w.heap.size)
    (h : ArIn w F p o f) (hy : y < 18446744073709551616) (hf : 0 ≤ f y ∧ f y < 256) :
    Calls Try.prog 78 #[.agg #[.int .i64 23, .int .i64 v, .int .u64 n, .int .i64 (ia : Nat), .int .i64 (ib : Nat), .int .i64 c], .slice AX lx cx, E.v, .slice (some ⟨bk, ok, none⟩) len cap] w (VaP F (.num (f y)) w) := by
  obtain ⟨A1, n1, c1, r0, r1, r2, r3, r4, r5, r6, r7, A2, n2, c2⟩ := E
  have hk : Tm.kidn 23 = 2 := by decide
  have HK := Lib.hid hk
  have HA := Lib.hid h
  have HF := Lib.hid hf
  have hia' : (ia : Int) < len := by omega
  have hib' : (ib : Int) < len := by omega
  have m1 : bk < w.heap.size + 1 := by omega
  have m2 : bk < w.heap.size + 1 + 1 := by omega
  have m3 : bk < w.heap.size + 1 + 1 + 1 := by omega
  have m4 : bk < w.heap.size + 1 + 1 + 1 + 1 := by omega
  obtain ⟨fn, cp, rfl⟩ : ∃ fn cap, o = .func fn #[] cap := by
    obtain ⟨t, g, _, ho, _⟩ := h.ex
    exact ho.func
  have ta := asA_A p (.func fn #[] cp)
  clear hk h hf
  go_enter Try.func78, Try.ntmps78
  go_wp2_with (go_at_call 73; refine (kids_any _ _).mono ?_; rintro e w' ⟨rfl, rfl⟩; rw [HK.out])
  refine wp_loop_rounds 3 ?_
  rw [rounds_succ]; go_wp2_with (go_at_call 154; refine (toldA_any _ _ _).mono ?_; rintro e w' ⟨rfl, rfl⟩)
  rw [rounds_succ]; go_wp2_with (go_at_call 153; refine (toldN_any _ _).mono ?_; rintro e w' ⟨rfl, rfl⟩)
  rw [rounds_succ]; go_wp2_with fail
  have hB : ∀ W : World, Below w.heap.size w W → Calls Try.prog 112 #[.int .i64 23, .agg #[.pointer p, .func fn #[] cp], .int .u64 y, .int .u64 0] W (VaP F (.num (f y)) W) := fun W hW => ofArray_get p _ f y 0 F W (HA.out.keep (Keep.of_below hW)) hy HF.out
  refine (hB _ ?_).mono ?_
  · go_grown
  · rintro e w' ⟨va, rfl, hv, hb⟩
    have HV := Lib.hid hv
    have HB2 := Lib.hid hb
    clear hv hb hB
    go_wp2_with fail
    go_ret
    refine ⟨_, rfl, HV.out, Below.trans ?_ (HB2.out.mono (by simp; try omega))⟩
    go_grown

set_option maxHeartbeats 8000000 in
theorem comes24 (v n : Int) (ia ib ic : Nat) (p : Option Addr) (o : Value) (f : Int → Int) (y z : Nat) (AX : Option Addr) (lx cx : Nat) (E : EnV) (bk ok len cap : Nat) (F : Nat → Prop) (w : World)
    (hia : ia < len) (q0 : w.cell? ⟨bk, ok + ia, none⟩ = some (.iface 107 (.agg #[.pointer p, o]))) (hib : ib < len) (q1 : w.cell? ⟨bk, ok + ib, none⟩ = some (.iface 103 (.int .u64 y))) (hic : ic < len) (q2 : w.cell? ⟨bk, ok + ic, none⟩ = some (.iface 103 (.int .u64 z))) (hbk : bk < w.heap.size)
    (hF : ∀ b, F b → b < w.heap.size) (h : ArIn w F p o f) (hy : y < 18446744073709551616) :
    Calls Try.prog 78 #[.agg #[.int .i64 24, .int .i64 v, .int .u64 n, .int .i64 (ia : Nat), .int .i64 (ib : Nat), .int .i64 (ic : Nat)], .slice AX lx cx, E.v, .slice (some ⟨bk, ok, none⟩) len cap] w (VaP F (.arr (fun x => if x = y then (z : Int) % 256 else f x)) w) := by
  obtain ⟨A1, n1, c1, r0, r1, r2, r3, r4, r5, r6, r7, A2, n2, c2⟩ := E
  have hk : Tm.kidn 24 = 3 := by decide
  have HK := Lib.hid hk
  have HA := Lib.hid h
  have HF := Lib.hid hF
  have hic' : (ic : Int) < len := by omega
  have hia' : (ia : Int) < len := by omega
  have hib' : (ib : Int) < len := by omega
  have m1 : bk < w.heap.size + 1 := by omega
  have m2 : bk < w.heap.size + 1 + 1 := by omega
  have m3 : bk < w.heap.size + 1 + 1 + 1 := by omega
  have m4 : bk < w.heap.size + 1 + 1 + 1 + 1 := by omega
  obtain ⟨fn, cp, rfl⟩ : ∃ fn cap, o = .func fn #[] cap := by
    obtain ⟨t, g, _, ho, _⟩ := h.ex
    exact ho.func
  have ta := asA_A p (.func fn #[] cp)
  clear hk h hF
  go_enter Try.func78, Try.ntmps78
  go_wp2_with (go_at_call 73; refine (kids_any _ _).mono ?_; rintro e w' ⟨rfl, rfl⟩; rw [HK.out])
  refine wp_loop_rounds 4 ?_
  rw [rounds_succ]; go_wp2_with (go_at_call 154; refine (toldA_any _ _ _).mono ?_; rintro e w' ⟨rfl, rfl⟩)
  rw [rounds_succ]; go_wp2_with (go_at_call 153; refine (toldN_any _ _).mono ?_; rintro e w' ⟨rfl, rfl⟩)
  rw [rounds_succ]; go_wp2_with (go_at_call 153; refine (toldN_any _ _).mono ?_; rintro e w' ⟨rfl, rfl⟩)
  rw [rounds_succ]; go_wp2_with fail
  have hB : ∀ W : World, Below w.heap.size w W → Calls Try.prog 112 #[.int .i64 24, .agg #[.pointer p, .func fn #[] cp], .int .u64 y, .int .u64 z] W (VaP F (.arr (fun x => if x = y then (z : Int) % 256 else f x)) W) := fun W hW => ofArray_put p _ f y z F W (HA.out.keep (Keep.of_below hW)) (fun b h => Nat.lt_of_lt_of_le (HF.out b h) hW.size) hy
  refine (hB _ ?_).mono ?_
  · go_grown
  · rintro e w' ⟨va, rfl, hv, hb⟩
    have HV := Lib.hid hv
    have HB2 := Lib.hid hb
    clear hv hb hB
    go_wp2_with fail
    go_ret
    refine ⟨_, rfl, HV.out, Below.trans ?_ (HB2.out.mono (by simp; try omega))⟩
    go_grown
end Go.Proofs.Ytdbcpnpcnkccaaa
namespace Go.Proofs.Ytdbcpnpcnkccaaa
set_option maxRecDepth 100000
open Go.RowKit

theorem Vl.down_of {X : List Tm.Nd} {m : Nat} (h : Tm.Ok X m) : Vl.Down X m := fun j hj ho => by
  have hf := Tm.flt_zero (show Tm.flt (X.getD j Tm.z) j X = 0 from h j hj)
  obtain ⟨k1, k2, k3⟩ := Tm.kok_in hf.2.2.1
  have hk : Tm.kidn (X.getD j Tm.z).op = 3 := by rw [ho]; decide
  exact ⟨k1 (by omega), k2 (by omega), k3 (by omega)⟩
theorem Vl.kd_of {X : List Tm.Nd} {m j : Nat} (h : Tm.Ok X m) (hj : j < m) : Vl.Kd (X.getD j Tm.z) j := Tm.kok_in (Tm.flt_zero (show Tm.flt (X.getD j Tm.z) j X = 0 from h j hj)).2.2.1
theorem Vl.get_by {X : List Tm.Nd} {v mem : List Int} (hm : Vl.By mem) : ∀ (f : Nat) (a k : Int), 0 ≤ Vl.get X v mem f a k ∧ Vl.get X v mem f a k < 256 := by
  intro f
  induction f with
  | zero => intro a k; simp [Vl.get]
  | succ f ih =>
    intro a k
    rw [Vl.get]
    split
    · split
      · omega
      · exact ih _ _
    · split
      · exact hm _
      · exact ⟨Int.le_refl _, by decide⟩
theorem Wd.app_nn (op a x y : Int) : 0 ≤ Wd.app op a x y := by
  have h := Wd.cut_lo a
  have hm := Wd.cut_hi_le a x
  have hd : ∀ o, 0 ≤ Wd.dvd o a (Wd.cut a x) (Wd.cut a y) := fun o => by
    unfold Wd.dvd
    have := Wd.msk_lo a
    split <;> split
    · exact h x
    · exact Int.emod_nonneg _ (by omega)
    · omega
    · exact Int.ediv_nonneg (h x) (h y)
  have he : ∀ p q, 0 ≤ Wd.eqv p q := fun p q => by unfold Wd.eqv; split <;> omega
  have hl : ∀ p q, 0 ≤ Wd.ltv p q := fun p q => by unfold Wd.ltv; split <;> omega
  have ite : ∀ {c : Prop} [Decidable c] {p q : Int}, 0 ≤ p → 0 ≤ q → 0 ≤ (if c then p else q) := fun h1 h2 => by split <;> assumption
  unfold Wd.app
  refine ite ?_ (ite ?_ (ite ?_ (ite ?_ (ite ?_ (ite ?_ (ite ?_ (ite ?_ (ite ?_ (ite ?_ (ite ?_ (ite ?_ (ite ?_ (ite ?_ (ite ?_ ?_))))))))))))))
  · omega
  · exact h _
  · exact h _
  · exact h _
  · exact hd _
  · exact hd _
  · exact Int.natCast_nonneg _
  · exact Int.natCast_nonneg _
  · exact Int.natCast_nonneg _
  · exact h _
  · exact Int.ediv_nonneg (h _) (Int.le_of_lt (Wd.pw_pos _))
  · exact h _
  · exact he _ _
  · exact hl _ _
  · exact hl _ _
  · exact Int.le_refl 0
theorem Wd.app_hi (op a x y : Int) : Wd.app op a x y < 18446744073709551616 := by
  have := Wd.app_le op a x y; have := Wd.msk_hi a; omega
theorem Vl.one_u {X : List Tm.Nd} {v : List Int} {e : Vl.Env} {nd : Tm.Nd} (he : e.Ok) (hv : Vl.U v) (hn : Tm.U64 nd.n) : 0 ≤ Vl.one X v e nd ∧ Vl.one X v e nd < 18446744073709551616 := by
  unfold Vl.one
  have hb : ∀ k, 0 ≤ Vl.att e.inp k ∧ Vl.att e.inp k < 18446744073709551616 := fun k => by have := he.inp k.toNat; unfold Vl.att; omega
  have hr : ∀ k, 0 ≤ Vl.att e.regs k ∧ Vl.att e.regs k < 18446744073709551616 := fun k => he.regs k.toNat
  have hg := fun f a k => Vl.get_by (X := X) (v := v) he.mem f a k
  repeat' split
  all_goals first
    | exact hn
    | exact hb _
    | exact hr _
    | exact hv _
    | exact ⟨Int.le_refl _, by decide⟩
    | (have := hv nd.a.toNat; omega)
    | (have := hg (nd.a.toNat + 1) nd.a (v.getD nd.b.toNat 0); omega)
    | exact ⟨Wd.app_nn _ _ _ _, Wd.app_hi _ _ _ _⟩
theorem Vl.vals_u {X : List Tm.Nd} {e : Vl.Env} (he : e.Ok) (hn : ∀ i, Tm.U64 (X.getD i Tm.z).n) : ∀ i, Vl.U (Vl.vals X e i) := by
  intro i
  induction i with
  | zero => intro j; simp [Vl.vals]
  | succ i ih =>
    intro j
    rcases Nat.lt_trichotomy j i with h | h | h
    · rw [Vl.vals_pre X e h (i + 1) (by omega)]; exact ih j
    · subst h; rw [Vl.vals_new]; exact Vl.one_u he ih (hn j)
    · rw [List.getD_eq_getElem?_getD, List.getElem?_eq_none (by rw [Vl.vals_len]; omega)]; simp

/-- A node of some width is a number. -/
theorem Vl.mean_num {X : List Tm.Nd} {e : Vl.Env} {j i : Nat} (hj : j < i) (hw : (X.getD j Tm.z).w ≠ 0) : Vl.mean X e j = .num ((Vl.vals X e i).getD j 0) := by
  rw [Vl.mean, if_neg hw, Vl.vals_at X e hj]
theorem Vl.mean_arr {X : List Tm.Nd} {e : Vl.Env} {j i : Nat} (hd : Vl.Down X (j + 1)) (hj : j < i) (hw : (X.getD j Tm.z).w = 0) : Vl.mean X e j = .arr (fun k => Vl.get X (Vl.vals X e i) e.mem (j + 1) j k) := by
  rw [Vl.mean, if_pos hw]
  congr 1
  funext k
  have hd' : Vl.Down X j := fun t ht => hd t (by omega)
  rw [Vl.get, Vl.get]
  simp only [Int.toNat_natCast]
  by_cases h : (X.getD j Tm.z).op = 24
  · rw [if_pos h, if_pos h]
    obtain ⟨⟨h0, h1⟩, ⟨h2, h3⟩, h4, h5⟩ := hd j (by omega) h
    obtain ⟨a, ha⟩ := Int.eq_ofNat_of_zero_le h0
    rw [ha] at h1 ⊢
    have hv : ∀ t, t < j → (Vl.vals X e j).getD t 0 = (Vl.vals X e i).getD t 0 := fun t ht => (Vl.vals_pre X e ht i (by omega)).symm
    rw [hv _ (by omega), hv _ (by omega), Vl.get_congr hd' (fun _ _ => rfl) hv j a (by omega)]
  · rw [if_neg h, if_neg h]
theorem Vl.mean_leaf {X : List Tm.Nd} {e : Vl.Env} {i : Nat} (hf : Tm.fltAt X i = 0) (hk : Tm.kidn (X.getD i Tm.z).op = 0) : Vl.mean X e i = Vl.leafM (X.getD i Tm.z) e := by
  obtain ⟨o0, o1, _, hw, _⟩ := Tm.flt_zero (show Tm.flt (X.getD i Tm.z) i X = 0 from hf)
  have hs := Tm.kidn_spec (X.getD i Tm.z).op
  rw [Vl.mean, Vl.leafM]
  have h5 : (X.getD i Tm.z).op = 0 ∨ (X.getD i Tm.z).op = 1 ∨ (X.getD i Tm.z).op = 2 ∨ (X.getD i Tm.z).op = 3 ∨ (X.getD i Tm.z).op = 4 := by omega
  rcases h5 with h | h | h | h | h
  · rw [if_neg (fun e => by rw [h, e] at hw; simp [Tm.wok] at hw), Vl.one, if_pos h, h]; rfl
  · rw [if_neg (fun e => by rw [h, e] at hw; simp [Tm.wok] at hw), Vl.one, h]; rfl
  · rw [if_neg (fun e => by rw [h, e] at hw; simp [Tm.wok] at hw), Vl.one, h]; rfl
  · rw [if_pos (by rw [h] at hw; simpa [Tm.wok] using hw), h]
    simp only [Vl.get, Int.toNat_natCast, h]; rfl
  · rw [if_pos (by rw [h] at hw; simpa [Tm.wok] using hw), h]
    simp only [Vl.get, Int.toNat_natCast, h]; rfl
end Go.Proofs.Ytdbcpnpcnkccaaa
namespace Go.Proofs.Ytdbcpnpcnkccaaa
set_option maxRecDepth 100000
open Go.RowKit

section
variable {X : List Tm.Nd} {e : Vl.Env} {i : Nat}
theorem Vl.mean1 (hf : Tm.fltAt X i = 0) (hk : Tm.kidn (X.getD i Tm.z).op = 1) : (X.getD (X.getD i Tm.z).a.toNat Tm.z).w ≠ 0 ∧
    Vl.mean X e i = .num (Vl.numM (X.getD i Tm.z).op (X.getD (X.getD i Tm.z).a.toNat Tm.z).w ((Vl.vals X e i).getD (X.getD i Tm.z).a.toNat 0) 0 0) := by
  obtain ⟨o0, o1, hkk, hw, _⟩ := Tm.flt_zero (show Tm.flt (X.getD i Tm.z) i X = 0 from hf)
  have hs := Tm.kidn_spec (X.getD i Tm.z).op
  have e0 : Tm.w0 (X.getD i Tm.z) X = (X.getD (X.getD i Tm.z).a.toNat Tm.z).w := by rw [Tm.w0, if_pos (by omega)]; rfl
  rw [e0] at hw
  generalize hnd : X.getD i Tm.z = nd at *
  rw [Vl.mean, hnd, Vl.numM, Vl.one, Tm.wd]
  generalize (X.getD nd.a.toNat Tm.z).w = wa at *
  clear e0
  have h5 : nd.op = 5 ∨ nd.op = 6 ∨ nd.op = 7 := by omega
  rcases h5 with h | h | h <;> rw [h] at hw ⊢ <;> simp [Tm.wok] at hw <;> refine ⟨by omega, ?_⟩ <;> rw [if_neg (by omega)]
  · simp [Wd.app]
  · simp
  · simp
theorem Vl.mean2 (hf : Tm.fltAt X i = 0) (hk : Tm.kidn (X.getD i Tm.z).op = 2) (h23 : (X.getD i Tm.z).op ≠ 23) : (X.getD (X.getD i Tm.z).a.toNat Tm.z).w ≠ 0 ∧ (X.getD (X.getD i Tm.z).b.toNat Tm.z).w ≠ 0 ∧
    Vl.mean X e i = .num (Vl.numM (X.getD i Tm.z).op (X.getD (X.getD i Tm.z).a.toNat Tm.z).w ((Vl.vals X e i).getD (X.getD i Tm.z).a.toNat 0) ((Vl.vals X e i).getD (X.getD i Tm.z).b.toNat 0) 0) := by
  obtain ⟨o0, o1, hkk, hw, _⟩ := Tm.flt_zero (show Tm.flt (X.getD i Tm.z) i X = 0 from hf)
  have hs := Tm.kidn_spec (X.getD i Tm.z).op
  have e0 : Tm.w0 (X.getD i Tm.z) X = (X.getD (X.getD i Tm.z).a.toNat Tm.z).w := by rw [Tm.w0, if_pos (by omega)]; rfl
  have e1 : Tm.w1 (X.getD i Tm.z) X = (X.getD (X.getD i Tm.z).b.toNat Tm.z).w := by rw [Tm.w1, if_pos (by omega)]; rfl
  rw [e0, e1] at hw
  generalize hnd : X.getD i Tm.z = nd at *
  rw [Vl.mean, hnd, Vl.numM, Vl.one, Tm.wd]
  generalize (X.getD nd.a.toNat Tm.z).w = wa at *
  generalize (X.getD nd.b.toNat Tm.z).w = wb at *
  clear e0 e1
  have hw2 : Tm.alike wa wb = true ∧ nd.w ≠ 0 := by
    unfold Tm.wok at hw
    rw [if_neg (by omega), if_neg (by omega), if_neg (by omega), if_neg (by omega), if_neg (by omega), if_neg (by omega), if_neg (by omega)] at hw
    by_cases h19 : nd.op = 19 ∨ nd.op = 20 ∨ nd.op = 21
    · rw [if_pos h19] at hw
      simp at hw
      exact ⟨hw.1, by omega⟩
    · rw [if_neg h19, if_neg (by omega), if_neg (by omega), if_neg (by omega)] at hw
      simp at hw
      refine ⟨hw.1, ?_⟩
      have := hw.1
      simp [Tm.alike] at this
      omega
  obtain ⟨hal, hwn⟩ := hw2
  simp [Tm.alike] at hal
  refine ⟨by omega, by omega, ?_⟩
  rw [if_neg hwn]
  simp only [show ¬ nd.op = 0 by omega, show ¬ nd.op = 1 by omega, show ¬ nd.op = 2 by omega, show ¬ (nd.op = 3 ∨ nd.op = 4 ∨ nd.op = 24) by omega, show ¬ nd.op = 6 by omega, show ¬ nd.op = 7 by omega, show ¬ nd.op = 22 by omega, show ¬ nd.op = 23 by omega, if_false]
theorem Vl.mean3 (hf : Tm.fltAt X i = 0) (h22 : (X.getD i Tm.z).op = 22) : (X.getD (X.getD i Tm.z).a.toNat Tm.z).w ≠ 0 ∧ (X.getD (X.getD i Tm.z).b.toNat Tm.z).w ≠ 0 ∧ (X.getD (X.getD i Tm.z).c.toNat Tm.z).w ≠ 0 ∧
    Vl.mean X e i = .num (Vl.numM (X.getD i Tm.z).op (X.getD (X.getD i Tm.z).a.toNat Tm.z).w ((Vl.vals X e i).getD (X.getD i Tm.z).a.toNat 0) ((Vl.vals X e i).getD (X.getD i Tm.z).b.toNat 0) ((Vl.vals X e i).getD (X.getD i Tm.z).c.toNat 0)) := by
  obtain ⟨o0, o1, hkk, hw, _⟩ := Tm.flt_zero (show Tm.flt (X.getD i Tm.z) i X = 0 from hf)
  have hk : Tm.kidn (X.getD i Tm.z).op = 3 := by rw [h22]; decide
  have e0 : Tm.w0 (X.getD i Tm.z) X = (X.getD (X.getD i Tm.z).a.toNat Tm.z).w := by rw [Tm.w0, if_pos (by omega)]; rfl
  have e1 : Tm.w1 (X.getD i Tm.z) X = (X.getD (X.getD i Tm.z).b.toNat Tm.z).w := by rw [Tm.w1, if_pos (by omega)]; rfl
  have e2 : Tm.w2 (X.getD i Tm.z) X = (X.getD (X.getD i Tm.z).c.toNat Tm.z).w := by rw [Tm.w2, if_pos (by omega)]; rfl
  rw [e0, e1, e2] at hw
  generalize hnd : X.getD i Tm.z = nd at *
  rw [Vl.mean, hnd, Vl.numM, Vl.one, Tm.wd]
  generalize (X.getD nd.a.toNat Tm.z).w = wa at *
  generalize (X.getD nd.b.toNat Tm.z).w = wb at *
  generalize (X.getD nd.c.toNat Tm.z).w = wc at *
  clear e0 e1 e2
  rw [h22] at hw
  simp [Tm.wok, Tm.alike] at hw
  refine ⟨by omega, by omega, by omega, ?_⟩
  rw [if_neg (by omega), h22]
  simp
theorem Vl.mean23 (hf : Tm.fltAt X i = 0) (h23 : (X.getD i Tm.z).op = 23) : (X.getD (X.getD i Tm.z).a.toNat Tm.z).w = 0 ∧ (X.getD (X.getD i Tm.z).b.toNat Tm.z).w ≠ 0 ∧
    Vl.mean X e i = .num (Vl.get X (Vl.vals X e i) e.mem ((X.getD i Tm.z).a.toNat + 1) (X.getD i Tm.z).a ((Vl.vals X e i).getD (X.getD i Tm.z).b.toNat 0)) := by
  obtain ⟨o0, o1, hkk, hw, _⟩ := Tm.flt_zero (show Tm.flt (X.getD i Tm.z) i X = 0 from hf)
  have hk : Tm.kidn (X.getD i Tm.z).op = 2 := by rw [h23]; decide
  have e0 : Tm.w0 (X.getD i Tm.z) X = (X.getD (X.getD i Tm.z).a.toNat Tm.z).w := by rw [Tm.w0, if_pos (by omega)]; rfl
  have e1 : Tm.w1 (X.getD i Tm.z) X = (X.getD (X.getD i Tm.z).b.toNat Tm.z).w := by rw [Tm.w1, if_pos (by omega)]; rfl
  rw [e0, e1] at hw
  generalize hnd : X.getD i Tm.z = nd at *
  rw [Vl.mean, hnd, Vl.one]
  generalize (X.getD nd.a.toNat Tm.z).w = wa at *
  generalize (X.getD nd.b.toNat Tm.z).w = wb at *
  clear e0 e1
  rw [h23] at hw
  simp [Tm.wok] at hw
  refine ⟨by omega, by omega, ?_⟩
  rw [if_neg (by omega), h23]
  simp
theorem Vl.mean24 (hf : Tm.fltAt X i = 0) (h24 : (X.getD i Tm.z).op = 24) : (X.getD (X.getD i Tm.z).a.toNat Tm.z).w = 0 ∧ (X.getD (X.getD i Tm.z).b.toNat Tm.z).w ≠ 0 ∧ (X.getD (X.getD i Tm.z).c.toNat Tm.z).w ≠ 0 ∧
    Vl.mean X e i = .arr (fun k => if (Vl.vals X e i).getD (X.getD i Tm.z).b.toNat 0 = k then (Vl.vals X e i).getD (X.getD i Tm.z).c.toNat 0 % 256 else Vl.get X (Vl.vals X e i) e.mem i (X.getD i Tm.z).a k) := by
  obtain ⟨o0, o1, hkk, hw, _⟩ := Tm.flt_zero (show Tm.flt (X.getD i Tm.z) i X = 0 from hf)
  have hk : Tm.kidn (X.getD i Tm.z).op = 3 := by rw [h24]; decide
  have e0 : Tm.w0 (X.getD i Tm.z) X = (X.getD (X.getD i Tm.z).a.toNat Tm.z).w := by rw [Tm.w0, if_pos (by omega)]; rfl
  have e1 : Tm.w1 (X.getD i Tm.z) X = (X.getD (X.getD i Tm.z).b.toNat Tm.z).w := by rw [Tm.w1, if_pos (by omega)]; rfl
  have e2 : Tm.w2 (X.getD i Tm.z) X = (X.getD (X.getD i Tm.z).c.toNat Tm.z).w := by rw [Tm.w2, if_pos (by omega)]; rfl
  rw [e0, e1, e2] at hw
  have hw0 : (X.getD i Tm.z).w = 0 ∧ (X.getD (X.getD i Tm.z).a.toNat Tm.z).w = 0 ∧ (X.getD (X.getD i Tm.z).b.toNat Tm.z).w = 64 ∧ (X.getD (X.getD i Tm.z).c.toNat Tm.z).w = 8 := by
    rw [h24] at hw
    generalize (X.getD (X.getD i Tm.z).a.toNat Tm.z).w = wa at *
    generalize (X.getD (X.getD i Tm.z).b.toNat Tm.z).w = wb at *
    generalize (X.getD (X.getD i Tm.z).c.toNat Tm.z).w = wc at *
    generalize (X.getD i Tm.z).w = ww at *
    simp [Tm.wok] at hw
    omega
  refine ⟨by omega, by omega, by omega, ?_⟩
  rw [Vl.mean, if_pos (by omega)]
  congr 1
  funext k
  rw [Vl.get, Int.toNat_natCast, if_pos h24]
end

theorem KnIn.at {w : World} {F : Nat → Prop} {b o : Nat} {len cap : Nat} {ms : Nat → Vl.M} (h : KnIn w F (some ⟨b, o, none⟩) len cap ms) {i : Nat} (hi : i < len) : b < w.heap.size ∧ ∃ v, w.cell? ⟨b, o + i, none⟩ = some v ∧ VaIn w F v (ms i) := by
  obtain ⟨b', o', e, hl, hx⟩ := h.mem (by omega)
  injection e with e
  injection e with e1 e2
  subst e1 e2
  exact ⟨hl, hx i hi⟩
theorem NdR.at {w : World} {b o : Nat} {len cap : Nat} {X : List Tm.Nd} (h : NdR w (some ⟨b, o, none⟩) len cap X) {i : Nat} (hi : i < len) : b < w.heap.size ∧ NdAt w b (o + i * 6) (X.getD i Tm.z) := by
  obtain ⟨b', o', e, hl, hx⟩ := h.mem (by omega)
  injection e with e
  injection e with e1 e2
  subst e1 e2
  exact ⟨hl, hx i hi⟩
theorem VaP.eq {F : Nat → Prop} {m m' : Vl.M} {w : World} {e : Ending} {w' : World} (h : VaP F m w e w') (he : m' = m) : VaP F m' w e w' := he ▸ h

set_option maxHeartbeats 2000000 in
theorem comes_any (X : List Tm.Nd) (i : Nat) (AX : Option Addr) (lx cx : Nat) (E : EnV) (e : Vl.Env) (A : Option Addr) (cap : Nat) (F : Nat → Prop) (w : World) (hok : Tm.Ok X (i + 1)) (hu : ∀ j, Tm.U64 (X.getD j Tm.z).n)
    (hX : NdR w AX lx cx X) (hi : i < lx) (hK : KnIn w F A i cap (Vl.mean X e)) (hE : EnIn w F E e) (hF : ∀ b, F b → b < w.heap.size) :
    Calls Try.prog 78 #[ndv (X.getD i Tm.z), .slice AX lx cx, E.v, .slice A i cap] w (VaP F (Vl.mean X e i) w) := by
  have hf : Tm.fltAt X i = 0 := hok i (by omega)
  have hs := Tm.kidn_spec (X.getD i Tm.z).op
  obtain ⟨o0, o1, hkk, hw, hn⟩ := Tm.flt_zero (show Tm.flt (X.getD i Tm.z) i X = 0 from hf)
  obtain ⟨k1, k2, k3⟩ := Tm.kok_in hkk
  have hv := Vl.vals_u (X := X) hE.ok hu i
  have hd : Vl.Down X i := Vl.down_of fun j hj => hok j (by omega)
  obtain ⟨bx, ox, rfl, hbx, _⟩ := hX.mem (by omega)
  rcases hs with ⟨h0, hk⟩ | ⟨h5, h7, hk⟩ | ⟨h2, hk⟩ | ⟨h8, h9, h22, hk⟩
  · rw [Vl.mean_leaf hf hk]
    refine comes0 _ _ lx cx E e A i cap F w hE hF (by omega) (hu i) fun h2 => ?_
    rw [h2] at hn
    simpa [Tm.nok] using hn
  · have M1 := Vl.mean1 (e := e) hf hk
    obtain ⟨ha0, ha1⟩ := k1 (by omega)
    generalize hnd : X.getD i Tm.z = nd at *
    obtain ⟨op, v, n, a, b, c⟩ := nd
    dsimp only at *
    obtain ⟨ia, rfl⟩ := Int.eq_ofNat_of_zero_le ha0
    have hia : ia < i := by omega
    rw [Int.toNat_natCast] at M1
    obtain ⟨bk, ok, rfl, hbk, _⟩ := hK.mem (by omega)
    obtain ⟨_, va, q0, hva⟩ := hK.at hia
    rw [Vl.mean_num hia M1.1] at hva
    rw [show va = _ from hva] at q0
    rw [M1.2]
    exact comes1 op v n b c ia _ _ bx ox lx cx E bk ok i cap F w hk hia q0 hbk (by omega) (hX.at (i := ia) (by omega)).2.2.1 hbx
  · rcases h2 with h2 | h2
    · obtain ⟨W1, W2, W3, M⟩ := Vl.mean3 (e := e) hf h2
      obtain ⟨ha0, ha1⟩ := k1 (by omega)
      obtain ⟨hb0, hb1⟩ := k2 (by omega)
      obtain ⟨hc0, hc1⟩ := k3 (by omega)
      generalize hnd : X.getD i Tm.z = nd at *
      obtain ⟨op, v, n, a, b, c⟩ := nd
      dsimp only at *
      obtain ⟨ia, rfl⟩ := Int.eq_ofNat_of_zero_le ha0
      obtain ⟨ib, rfl⟩ := Int.eq_ofNat_of_zero_le hb0
      obtain ⟨ic, rfl⟩ := Int.eq_ofNat_of_zero_le hc0
      rw [Int.toNat_natCast] at W1 W2 W3
      rw [Int.toNat_natCast, Int.toNat_natCast, Int.toNat_natCast] at M
      obtain ⟨bk, ok, rfl, hbk, _⟩ := hK.mem (by omega)
      obtain ⟨_, va, q0, hva⟩ := hK.at (i := ia) (by omega)
      obtain ⟨_, vb, q1, hvb⟩ := hK.at (i := ib) (by omega)
      obtain ⟨_, vc, q2, hvc⟩ := hK.at (i := ic) (by omega)
      rw [Vl.mean_num (i := i) (by omega) W1] at hva
      rw [Vl.mean_num (i := i) (by omega) W2] at hvb
      rw [Vl.mean_num (i := i) (by omega) W3] at hvc
      rw [show va = _ from hva] at q0
      rw [show vb = _ from hvb] at q1
      rw [show vc = _ from hvc] at q2
      rw [M]
      exact comes3 op v n ia ib ic _ _ _ _ bx ox lx cx E bk ok i cap F w hk (by omega) q0 (by omega) q1 (by omega) q2 hbk (by omega) (hX.at (i := ia) (by omega)).2.2.1 hbx
    · obtain ⟨W1, W2, W3, M⟩ := Vl.mean24 (e := e) hf h2
      obtain ⟨ha0, ha1⟩ := k1 (by omega)
      obtain ⟨hb0, hb1⟩ := k2 (by omega)
      obtain ⟨hc0, hc1⟩ := k3 (by omega)
      generalize hnd : X.getD i Tm.z = nd at *
      obtain ⟨op, v, n, a, b, c⟩ := nd
      dsimp only at *
      obtain ⟨ia, rfl⟩ := Int.eq_ofNat_of_zero_le ha0
      obtain ⟨ib, rfl⟩ := Int.eq_ofNat_of_zero_le hb0
      obtain ⟨ic, rfl⟩ := Int.eq_ofNat_of_zero_le hc0
      rw [Int.toNat_natCast] at W1 W2 W3
      rw [Int.toNat_natCast, Int.toNat_natCast] at M
      obtain ⟨bk, ok, rfl, hbk, _⟩ := hK.mem (by omega)
      obtain ⟨_, va, q0, hva⟩ := hK.at (i := ia) (by omega)
      obtain ⟨_, vb, q1, hvb⟩ := hK.at (i := ib) (by omega)
      obtain ⟨_, vc, q2, hvc⟩ := hK.at (i := ic) (by omega)
      rw [Vl.mean_arr (i := i) (fun t ht => hd t (by omega)) (by omega) W1] at hva
      rw [Vl.mean_num (i := i) (by omega) W2] at hvb
      rw [Vl.mean_num (i := i) (by omega) W3] at hvc
      obtain ⟨p, o, e1, har⟩ := hva
      rw [e1] at q0
      rw [show vb = _ from hvb] at q1
      rw [show vc = _ from hvc] at q2
      obtain ⟨y, hy⟩ := Int.eq_ofNat_of_zero_le (hv ib).1
      obtain ⟨z, hz⟩ := Int.eq_ofNat_of_zero_le (hv ic).1
      have hy64 := (hv ib).2
      rw [hy] at q1 hy64
      rw [hz] at q2
      rw [M, hy, hz]
      have := comes24 v n ia ib ic p o _ y z (some ⟨bx, ox, none⟩) lx cx E bk ok i cap F w (by omega) q0 (by omega) q1 (by omega) q2 hbk hF har (by omega)
      subst h2
      refine this.mono fun en w' hp => hp.eq ?_
      congr 1
      funext k
      by_cases hk : (y : Int) = k
      · rw [if_pos hk, if_pos hk.symm]
      · rw [if_neg hk, if_neg (fun h => hk h.symm), Vl.get_fuel hd i ia (by omega) (by omega)]
  · by_cases h23 : (X.getD i Tm.z).op = 23
    · obtain ⟨W1, W2, M⟩ := Vl.mean23 (e := e) hf h23
      obtain ⟨ha0, ha1⟩ := k1 (by omega)
      obtain ⟨hb0, hb1⟩ := k2 (by omega)
      generalize hnd : X.getD i Tm.z = nd at *
      obtain ⟨op, v, n, a, b, c⟩ := nd
      dsimp only at *
      obtain ⟨ia, rfl⟩ := Int.eq_ofNat_of_zero_le ha0
      obtain ⟨ib, rfl⟩ := Int.eq_ofNat_of_zero_le hb0
      rw [Int.toNat_natCast] at W1 W2
      rw [Int.toNat_natCast, Int.toNat_natCast] at M
      obtain ⟨bk, ok, rfl, hbk, _⟩ := hK.mem (by omega)
      obtain ⟨_, va, q0, hva⟩ := hK.at (i := ia) (by omega)
      obtain ⟨_, vb, q1, hvb⟩ := hK.at (i := ib) (by omega)
      rw [Vl.mean_arr (i := i) (fun t ht => hd t (by omega)) (by omega) W1] at hva
      rw [Vl.mean_num (i := i) (by omega) W2] at hvb
      obtain ⟨p, o, e1, har⟩ := hva
      rw [e1] at q0
      rw [show vb = _ from hvb] at q1
      obtain ⟨y, hy⟩ := Int.eq_ofNat_of_zero_le (hv ib).1
      have hy64 := (hv ib).2
      rw [hy] at q1 hy64
      rw [M, hy]
      subst h23
      exact comes23 v n c ia ib p o _ y (some ⟨bx, ox, none⟩) lx cx E bk ok i cap F w (by omega) q0 (by omega) q1 hbk har (by omega) (Vl.get_by hE.ok.mem _ _ _)
    · obtain ⟨W1, W2, M⟩ := Vl.mean2 (e := e) hf hk h23
      obtain ⟨ha0, ha1⟩ := k1 (by omega)
      obtain ⟨hb0, hb1⟩ := k2 (by omega)
      generalize hnd : X.getD i Tm.z = nd at *
      obtain ⟨op, v, n, a, b, c⟩ := nd
      dsimp only at *
      obtain ⟨ia, rfl⟩ := Int.eq_ofNat_of_zero_le ha0
      obtain ⟨ib, rfl⟩ := Int.eq_ofNat_of_zero_le hb0
      rw [Int.toNat_natCast] at W1 W2
      rw [Int.toNat_natCast, Int.toNat_natCast] at M
      obtain ⟨bk, ok, rfl, hbk, _⟩ := hK.mem (by omega)
      obtain ⟨_, va, q0, hva⟩ := hK.at (i := ia) (by omega)
      obtain ⟨_, vb, q1, hvb⟩ := hK.at (i := ib) (by omega)
      rw [Vl.mean_num (i := i) (by omega) W1] at hva
      rw [Vl.mean_num (i := i) (by omega) W2] at hvb
      rw [show va = _ from hva] at q0
      rw [show vb = _ from hvb] at q1
      rw [M]
      exact comes2 op v n c ia ib _ _ _ bx ox lx cx E bk ok i cap F w hk (by omega) q0 (by omega) q1 hbk (by omega) (hX.at (i := ia) (by omega)).2.2.1 hbx
end Go.Proofs.Ytdbcpnpcnkccaaa
