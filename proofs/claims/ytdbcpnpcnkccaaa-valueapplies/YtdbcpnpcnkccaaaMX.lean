/-
  Layer 7, plain: operations over two constants.
  The walk of ValueApplies.
-/
import Derived.Test.YtdbcpnpcnkccaaaMW
import Derived.Test.YtdbcpnpcnkccaaaMO
set_option linter.unusedSimpArgs false
set_option linter.unusedVariables false
namespace Go.Proofs.Ytdbcpnpcnkccaaa
set_option maxRecDepth 100000
open Go.RowKit Go.Maps

/-- The two lists of the law. -/
def Vl.ap6 (op v out x y : Int) : List Tm.Nd := [Vl.cst v x, Vl.cst v y, ⟨op, out, 0, 0, 1, 0⟩, ⟨19, 1, 0, 0, 1, 0⟩, ⟨22, v, 0, 3, 0, 1⟩, ⟨5, v, 0, 0, 0, 0⟩]
def Vl.ap3 (x : Int) : List Tm.Nd := [Vl.cst 64 x, ⟨7, 8, 0, 0, 0, 0⟩, ⟨6, 64, 0, 1, 0, 0⟩]

theorem Vl.ok6 {op v out x y : Int} (ho : 8 ≤ op ∧ op ≤ 21) (hv : (v = 8 ∧ x < 256 ∧ y < 256) ∨ v = 64) (hout : out = if 19 ≤ op then 1 else v) : Tm.chk (Vl.ap6 op v out x y) = (0, 0) := by
  have hk : Tm.kidn op = 2 := by have := Tm.kidn_spec op; omega
  have k19 : Tm.kidn 19 = 2 := by decide
  have k22 : Tm.kidn 22 = 3 := by decide
  have k5 : Tm.kidn 5 = 1 := by decide
  have hvv : v = 8 ∨ v = 64 := by omega
  refine Tm.chk_ok (by simp [Vl.ap6]) fun j hj => ?_
  have h6 : j = 0 ∨ j = 1 ∨ j = 2 ∨ j = 3 ∨ j = 4 ∨ j = 5 := by simp [Vl.ap6] at hj; omega
  rcases h6 with rfl | rfl | rfl | rfl | rfl | rfl
  · exact Vl.flt_cst (by omega)
  · exact Vl.flt_cst (by omega)
  · show Tm.flt ⟨op, out, 0, 0, 1, 0⟩ 2 (Vl.ap6 op v out x y) = 0
    have e0 : Tm.w0 ⟨op, out, 0, 0, 1, 0⟩ (Vl.ap6 op v out x y) = v := by rw [Tm.w0, if_pos (show 1 ≤ Tm.kidn op by omega)]; rfl
    have e1 : Tm.w1 ⟨op, out, 0, 0, 1, 0⟩ (Vl.ap6 op v out x y) = v := by rw [Tm.w1, if_pos (show 2 ≤ Tm.kidn op by omega)]; rfl
    have hal : Tm.alike v v = true := by rcases hvv with rfl | rfl <;> decide
    have hwk : Tm.wok op out v v (Tm.w2 ⟨op, out, 0, 0, 1, 0⟩ (Vl.ap6 op v out x y)) = true := by
      unfold Tm.wok
      rw [if_neg (by omega), if_neg (by omega), if_neg (by omega), if_neg (by omega), if_neg (by omega), if_neg (by omega), if_neg (by omega), hal]
      by_cases h : op = 19 ∨ op = 20 ∨ op = 21
      · rw [if_pos h, hout, if_pos (by omega)]; rfl
      · rw [if_neg h, if_neg (by omega), if_neg (by omega), if_neg (by omega), hout, if_neg (by omega)]; simp
    have hn : Tm.nok op out 0 = true := by
      unfold Tm.nok
      rw [if_neg (by omega), if_neg (by omega), if_neg (by omega)]; rfl
    have hkk : Tm.kok ⟨op, out, 0, 0, 1, 0⟩ 2 = true := by simp [Tm.kok, hk, Tm.inn]
    unfold Tm.flt
    rw [e0, e1]
    simp only [hkk, hwk, hn]
    rw [if_neg (by omega)]
    simp
  · show Tm.flt ⟨19, 1, 0, 0, 1, 0⟩ 3 (Vl.ap6 op v out x y) = 0
    have e0 : Tm.w0 ⟨19, 1, 0, 0, 1, 0⟩ (Vl.ap6 op v out x y) = v := rfl
    have e1 : Tm.w1 ⟨19, 1, 0, 0, 1, 0⟩ (Vl.ap6 op v out x y) = v := rfl
    have e2 : Tm.w2 ⟨19, 1, 0, 0, 1, 0⟩ (Vl.ap6 op v out x y) = 0 := rfl
    unfold Tm.flt
    rw [e0, e1, e2]
    rcases hvv with rfl | rfl <;> decide
  · show Tm.flt ⟨22, v, 0, 3, 0, 1⟩ 4 (Vl.ap6 op v out x y) = 0
    have e0 : Tm.w0 ⟨22, v, 0, 3, 0, 1⟩ (Vl.ap6 op v out x y) = 1 := rfl
    have e1 : Tm.w1 ⟨22, v, 0, 3, 0, 1⟩ (Vl.ap6 op v out x y) = v := rfl
    have e2 : Tm.w2 ⟨22, v, 0, 3, 0, 1⟩ (Vl.ap6 op v out x y) = v := rfl
    unfold Tm.flt
    rw [e0, e1, e2]
    rcases hvv with rfl | rfl <;> decide
  · show Tm.flt ⟨5, v, 0, 0, 0, 0⟩ 5 (Vl.ap6 op v out x y) = 0
    have e0 : Tm.w0 ⟨5, v, 0, 0, 0, 0⟩ (Vl.ap6 op v out x y) = v := rfl
    have e1 : Tm.w1 ⟨5, v, 0, 0, 0, 0⟩ (Vl.ap6 op v out x y) = 0 := rfl
    have e2 : Tm.w2 ⟨5, v, 0, 0, 0, 0⟩ (Vl.ap6 op v out x y) = 0 := rfl
    unfold Tm.flt
    rw [e0, e1, e2]
    rcases hvv with rfl | rfl <;> decide
theorem Vl.ok3 {x : Int} : Tm.chk (Vl.ap3 x) = (0, 0) := by
  refine Tm.chk_ok (by simp [Vl.ap3]) fun j hj => ?_
  have h6 : j = 0 ∨ j = 1 ∨ j = 2 := by simp [Vl.ap3] at hj; omega
  rcases h6 with rfl | rfl | rfl
  · exact Vl.flt_cst (.inl rfl)
  · show Tm.flt ⟨7, 8, 0, 0, 0, 0⟩ 1 (Vl.ap3 x) = 0
    have e0 : Tm.w0 ⟨7, 8, 0, 0, 0, 0⟩ (Vl.ap3 x) = 64 := rfl
    have e1 : Tm.w1 ⟨7, 8, 0, 0, 0, 0⟩ (Vl.ap3 x) = 0 := rfl
    have e2 : Tm.w2 ⟨7, 8, 0, 0, 0, 0⟩ (Vl.ap3 x) = 0 := rfl
    unfold Tm.flt
    rw [e0, e1, e2]
    decide
  · show Tm.flt ⟨6, 64, 0, 1, 0, 0⟩ 2 (Vl.ap3 x) = 0
    have e0 : Tm.w0 ⟨6, 64, 0, 1, 0, 0⟩ (Vl.ap3 x) = 8 := rfl
    have e1 : Tm.w1 ⟨6, 64, 0, 1, 0, 0⟩ (Vl.ap3 x) = 0 := rfl
    have e2 : Tm.w2 ⟨6, 64, 0, 1, 0, 0⟩ (Vl.ap3 x) = 0 := rfl
    unfold Tm.flt
    rw [e0, e1, e2]
    decide

theorem Vl.one_op {X : List Tm.Nd} {v : List Int} {e : Vl.Env} {op w a b : Int} (ho : op = 5 ∨ (8 ≤ op ∧ op ≤ 21)) : Vl.one X v e ⟨op, w, 0, a, b, 0⟩ = Wd.app op (Tm.wd X a) (v.getD a.toNat 0) (v.getD b.toNat 0) := by
  rw [Vl.one]
  simp only [show ¬ op = 0 by omega, show ¬ op = 1 by omega, show ¬ op = 2 by omega, show ¬ (op = 3 ∨ op = 4 ∨ op = 24) by omega, show ¬ op = 6 by omega, show ¬ op = 7 by omega, show ¬ op = 22 by omega, show ¬ op = 23 by omega, if_false]
theorem Vl.vals6 {op v out x y : Int} {e : Vl.Env} (ho : 8 ≤ op ∧ op ≤ 21) (hx : Wd.cut v x = x) (hy : Wd.cut v y = y) : ∃ q : Int, Vl.vals (Vl.ap6 op v out x y) e 6 = [x, y, Wd.app op v x y, q, y, Wd.app 5 v x 0] := by
  have v2 : Vl.vals (Vl.ap6 op v out x y) e 2 = [x, y] := rfl
  have o2 : Vl.one (Vl.ap6 op v out x y) [x, y] e ⟨op, out, 0, 0, 1, 0⟩ = Wd.app op v x y := Vl.one_op (.inr ho)
  have v3 : Vl.vals (Vl.ap6 op v out x y) e 3 = [x, y, Wd.app op v x y] := by
    rw [Vl.vals, v2, show (Vl.ap6 op v out x y).getD 2 Tm.z = ⟨op, out, 0, 0, 1, 0⟩ from rfl, o2]; rfl
  have o3 : Vl.one (Vl.ap6 op v out x y) [x, y, Wd.app op v x y] e ⟨19, 1, 0, 0, 1, 0⟩ = Wd.app 19 v x y := Vl.one_op (.inr (by omega))
  have v4 : Vl.vals (Vl.ap6 op v out x y) e 4 = [x, y, Wd.app op v x y, Wd.app 19 v x y] := by
    rw [Vl.vals, v3, show (Vl.ap6 op v out x y).getD 3 Tm.z = ⟨19, 1, 0, 0, 1, 0⟩ from rfl, o3]; rfl
  have o4 : Vl.one (Vl.ap6 op v out x y) [x, y, Wd.app op v x y, Wd.app 19 v x y] e ⟨22, v, 0, 3, 0, 1⟩ = y := by
    have h : Vl.one (Vl.ap6 op v out x y) [x, y, Wd.app op v x y, Wd.app 19 v x y] e ⟨22, v, 0, 3, 0, 1⟩ = if Wd.app 19 v x y = 1 then x else y := rfl
    rw [h, show Wd.app 19 v x y = Wd.eqv (Wd.cut v x) (Wd.cut v y) from rfl, hx, hy, Wd.eqv]
    by_cases hxy : x = y
    · rw [if_pos hxy, if_pos rfl, hxy]
    · rw [if_neg hxy, if_neg (by omega)]
  have v5 : Vl.vals (Vl.ap6 op v out x y) e 5 = [x, y, Wd.app op v x y, Wd.app 19 v x y, y] := by
    rw [Vl.vals, v4, show (Vl.ap6 op v out x y).getD 4 Tm.z = ⟨22, v, 0, 3, 0, 1⟩ from rfl, o4]; rfl
  have o5 : Vl.one (Vl.ap6 op v out x y) [x, y, Wd.app op v x y, Wd.app 19 v x y, y] e ⟨5, v, 0, 0, 0, 0⟩ = Wd.app 5 v x 0 := by
    rw [Vl.one_op (w := v) (a := 0) (b := 0) (.inl rfl)]
    exact Vl.app_not
  refine ⟨Wd.app 19 v x y, ?_⟩
  rw [Vl.vals, v5, show (Vl.ap6 op v out x y).getD 5 Tm.z = ⟨5, v, 0, 0, 0, 0⟩ from rfl, o5]
  rfl
theorem Vl.vals3 {x : Int} {e : Vl.Env} : Vl.vals (Vl.ap3 x) e 3 = [x, x % 256, x % 256] := rfl
end Go.Proofs.Ytdbcpnpcnkccaaa
namespace Go.Proofs.Ytdbcpnpcnkccaaa
set_option maxRecDepth 100000
open Go.RowKit Go.Maps

theorem env0 (W : World) : EnIn W (fun _ => False) ⟨none, 0, 0, 0, 0, 0, 0, 0, 0, 0, 0, none, 0, 0⟩ vE2 := ⟨bt_nil _ _, rfl, bt_nil _ _, ⟨by_nil, u_zero8, by_nil, rfl⟩⟩
/-- All of a literal list, in an empty environment. -/
theorem all_lit (W : World) (A : Option Addr) (n : Nat) (X : List Tm.Nd) (V : List Int) (hS : NdSl W A n n X) (hn : n ≤ 1000) (hc : Tm.chk X = (0, 0)) (hv : Vl.vals X vE2 n = V) :
    Calls Try.prog 26 #[.slice A n n, .agg #[.slice none 0 0, .int .u64 0, .int .u64 0, .int .u64 0, .int .u64 0, .int .u64 0, .int .u64 0, .int .u64 0, .int .u64 0, .slice none 0 0]] W fun en w' => ∃ B m c, en = .returned (.tuple #[.slice B m c, .int .i64 0]) ∧ UsR w' B m c V ∧ Below W.heap.size W w' := by
  have h := all_good A n n X ⟨none, 0, 0, 0, 0, 0, 0, 0, 0, 0, 0, none, 0, 0⟩ vE2 W hS (env0 W) (by omega) (by rw [hc])
  refine h.mono fun en w' ⟨B, m, c, he, hu, hb⟩ => ⟨B, m, c, by rw [he, hc], ?_, hb⟩
  rw [Vl.alR, if_pos (by rw [hc]), hS.hlen, hv] at hu
  exact hu

set_option maxHeartbeats 16000000 in
theorem vapplies_low (op x y : Int) (wide : Bool) (w : World) (h : op < 8 ∨ 21 < op) :
    Calls Try.prog 6 #[.int .i64 op, .int .u64 x, .int .u64 y, .bool wide] w fun en w' => en = .returned (.bool true) ∧ Below w.heap.size w w' := by
  by_cases h1 : op < 8
  · clear h
    go_enter Try.func6, Try.ntmps6
    go_wp2_with fail
    refine Calls.mono (vawake_any w) ?_
    rintro en w1 ⟨rfl, hb⟩
    have HB := Lib.hid hb
    clear hb
    go_wp2_with fail
    go_ret
    exact ⟨rfl, HB.out⟩
  · have h2 : 21 < op := by omega
    clear h
    go_enter Try.func6, Try.ntmps6
    go_wp2_with fail
    refine Calls.mono (vawake_any w) ?_
    rintro en w1 ⟨rfl, hb⟩
    have HB := Lib.hid hb
    clear hb
    go_wp2_with fail
    go_ret
    exact ⟨rfl, HB.out⟩

set_option maxHeartbeats 16000000 in
theorem vapplies_at (op x y v out : Int) (wide : Bool) (w : World) (ho : 8 ≤ op ∧ op ≤ 21) (hv : v = if wide = true then 64 else 8) (hout : out = if 19 ≤ op then 1 else v) (hx : 0 ≤ x ∧ x < 18446744073709551616) (hy : 0 ≤ y ∧ y < 18446744073709551616) :
    Calls Try.prog 6 #[.int .i64 op, .int .u64 x, .int .u64 y, .bool wide] w fun en w' => en = .returned (.bool true) ∧ Below w.heap.size w w' := by
  have hv2 : v = 8 ∨ v = 64 := by cases wide <;> simp at hv <;> omega
  have hcx : Wd.cut v (Wd.cut v x) = Wd.cut v x := Wd.cut_cut v x
  have hcy : Wd.cut v (Wd.cut v y) = Wd.cut v y := Wd.cut_cut v y
  have hbx := Wd.cut_lo v x
  have hby := Wd.cut_lo v y
  have hhx := Wd.cut_hi v x
  have hhy := Wd.cut_hi v y
  have h8 : v = 8 → Wd.cut v x < 256 ∧ Wd.cut v y < 256 := fun h => by rw [h, cut8, cut8]; omega
  obtain ⟨q, hq⟩ := Vl.vals6 (op := op) (v := v) (out := out) (x := Wd.cut v x) (y := Wd.cut v y) (e := vE2) ho hcx hcy
  rw [Wd.app_cut, show Wd.app 5 v (Wd.cut v x) 0 = Wd.app 5 v x 0 from by rw [Wd.app5, Wd.app5, Wd.cut_cut]] at hq
  have HQ := Lib.hid hq
  have HOK := Lib.hid (Vl.ok6 (op := op) (v := v) (out := out) (x := Wd.cut v x) (y := Wd.cut v y) ho (by omega) hout)
  have HWF := Lib.hid (show ∀ z ∈ Vl.ap6 op v out (Wd.cut v x) (Wd.cut v y), Tm.Wf z from fun z hz => by
    have ho2 : out = 1 ∨ out = v := by rw [hout]; split <;> omega
    simp only [Vl.ap6, List.mem_cons, List.not_mem_nil, or_false] at hz
    rcases hz with rfl | rfl | rfl | rfl | rfl | rfl <;> exact wf_mk (by omega) (by omega) (by omega) (by omega) (by omega) (by omega))
  have HW3 := Lib.hid (show ∀ z ∈ Vl.ap3 x, Tm.Wf z from fun z hz => by
    simp only [Vl.ap3, List.mem_cons, List.not_mem_nil, or_false] at hz
    rcases hz with rfl | rfl | rfl <;> exact wf_mk (by omega) (by omega) (by omega) (by omega) (by omega) (by omega))
  have hc8 := cut8 x
  obtain ⟨h1, h2⟩ := ho
  have n1 : ¬ op < 8 := by omega
  have n2 : ¬ 21 < op := by omega
  clear hq hcx hcy hbx hby hhx hhy h8 hv2
  have HC8 := Lib.hid hc8
  clear hc8 hx hy
  by_cases h19 : 19 ≤ op
  · rw [if_pos h19] at hout
    subst hout
    cases wide with
    | true =>
      rw [if_pos rfl] at hv
      subst hv
      go_enter Try.func6, Try.ntmps6
      go_wp2_with fail
      refine Calls.mono (vawake_any w) ?_
      rintro en w1 ⟨rfl, hb⟩
      have HB := Lib.hid hb
      clear hb
      go_wp2_with (go_at_call 32; refine (cut_any _ _ _).mono ?_; rintro en w' ⟨rfl, rfl⟩)
      refine Calls.mono (all_lit _ _ 6 (Vl.ap6 op 64 1 (Wd.cut 64 x) (Wd.cut 64 y)) _ (NdSl.lit w1 _ _ 6 rfl rfl (by omega) HWF.out) (by omega) HOK.out HQ.out) ?_
      rintro en w2 ⟨B, m, c, rfl, hu, hb2⟩
      obtain rfl : m = 6 := by have := hu.hlen; simpa using this.symm
      obtain ⟨bv, ov, rfl, hbv, hyy⟩ := hu.mem (by omega)
      have y2 : w2.cell? ⟨bv, ov + 2, none⟩ = some (.int .u64 (Wd.app op 64 x y)) := hyy 2 (by omega)
      have y4 : w2.cell? ⟨bv, ov + 4, none⟩ = some (.int .u64 (Wd.cut 64 y)) := hyy 4 (by omega)
      have y5 : w2.cell? ⟨bv, ov + 5, none⟩ = some (.int .u64 (Wd.app 5 64 x 0)) := hyy 5 (by omega)
      have HB2 := Lib.hid (HB.out.trans ((Below.trans (Below.box _ _) (hb2.mono (by simp))).mono HB.out.size))
      clear hyy hu hb2
      go_wp2_with fail
      go_quiet (first | (go_at_call 33; exact Calls.quiet_of (app_any _ _ _ _ _)) | (go_at_call 32; exact Calls.quiet_of_same ((cut_any _ _ _).mono fun _ _ h => ⟨h.1, h.2.symm⟩)))
      clear y2 y4 y5
      go_wp2_with fail
      refine Calls.mono (all_lit _ _ 3 (Vl.ap3 x) _ (NdSl.lit (w2.drewN nq) _ _ 3 rfl rfl (by omega) HW3.out) (by omega) Vl.ok3 Vl.vals3) ?_
      rintro en w3 ⟨B3, m3, c3, rfl, hu, hb3⟩
      obtain rfl : m3 = 3 := by have := hu.hlen; simpa using this.symm
      obtain ⟨bv3, ov3, rfl, hbv3, hyy⟩ := hu.mem (by omega)
      have y1 : w3.cell? ⟨bv3, ov3 + 1, none⟩ = some (.int .u64 (x % 256)) := hyy 1 (by omega)
      have y2 : w3.cell? ⟨bv3, ov3 + 2, none⟩ = some (.int .u64 (x % 256)) := hyy 2 (by omega)
      have hb4 : Below w2.heap.size w2 w3 := ((below_drewN (Below.refl _ _) nq).trans (Below.box _ _)).trans (hb3.mono (by simp))
      have HB3 := Lib.hid (HB2.out.trans (hb4.mono HB2.out.size))
      have HCT := Lib.hid (show ∀ W : World, Calls Try.prog 32 #[.int .i64 8, .int .u64 x] W fun en w' => en = .returned (.int .u64 (x % 256)) ∧ w' = W from fun W => (cut_any 8 x W).mono fun _ _ h => ⟨by rw [h.1, HC8.out], h.2.symm⟩)
      clear hyy hu hb3 hb4
      go_wp2_with fail
      go_quiet ((go_at_call 32; exact Calls.quiet_of_same (HCT.out _)))
      go_wp2_with fail
      go_ret
      exact ⟨rfl, below_drewN HB3.out _⟩
    | false =>
      rw [if_neg (by simp)] at hv
      subst hv
      go_enter Try.func6, Try.ntmps6
      go_wp2_with fail
      refine Calls.mono (vawake_any w) ?_
      rintro en w1 ⟨rfl, hb⟩
      have HB := Lib.hid hb
      clear hb
      go_wp2_with (go_at_call 32; refine (cut_any _ _ _).mono ?_; rintro en w' ⟨rfl, rfl⟩)
      refine Calls.mono (all_lit _ _ 6 (Vl.ap6 op 8 1 (Wd.cut 8 x) (Wd.cut 8 y)) _ (NdSl.lit w1 _ _ 6 rfl rfl (by omega) HWF.out) (by omega) HOK.out HQ.out) ?_
      rintro en w2 ⟨B, m, c, rfl, hu, hb2⟩
      obtain rfl : m = 6 := by have := hu.hlen; simpa using this.symm
      obtain ⟨bv, ov, rfl, hbv, hyy⟩ := hu.mem (by omega)
      have y2 : w2.cell? ⟨bv, ov + 2, none⟩ = some (.int .u64 (Wd.app op 8 x y)) := hyy 2 (by omega)
      have y4 : w2.cell? ⟨bv, ov + 4, none⟩ = some (.int .u64 (Wd.cut 8 y)) := hyy 4 (by omega)
      have y5 : w2.cell? ⟨bv, ov + 5, none⟩ = some (.int .u64 (Wd.app 5 8 x 0)) := hyy 5 (by omega)
      have HB2 := Lib.hid (HB.out.trans ((Below.trans (Below.box _ _) (hb2.mono (by simp))).mono HB.out.size))
      clear hyy hu hb2
      go_wp2_with fail
      go_quiet (first | (go_at_call 33; exact Calls.quiet_of (app_any _ _ _ _ _)) | (go_at_call 32; exact Calls.quiet_of_same ((cut_any _ _ _).mono fun _ _ h => ⟨h.1, h.2.symm⟩)))
      clear y2 y4 y5
      go_wp2_with fail
      refine Calls.mono (all_lit _ _ 3 (Vl.ap3 x) _ (NdSl.lit (w2.drewN nq) _ _ 3 rfl rfl (by omega) HW3.out) (by omega) Vl.ok3 Vl.vals3) ?_
      rintro en w3 ⟨B3, m3, c3, rfl, hu, hb3⟩
      obtain rfl : m3 = 3 := by have := hu.hlen; simpa using this.symm
      obtain ⟨bv3, ov3, rfl, hbv3, hyy⟩ := hu.mem (by omega)
      have y1 : w3.cell? ⟨bv3, ov3 + 1, none⟩ = some (.int .u64 (x % 256)) := hyy 1 (by omega)
      have y2 : w3.cell? ⟨bv3, ov3 + 2, none⟩ = some (.int .u64 (x % 256)) := hyy 2 (by omega)
      have hb4 : Below w2.heap.size w2 w3 := ((below_drewN (Below.refl _ _) nq).trans (Below.box _ _)).trans (hb3.mono (by simp))
      have HB3 := Lib.hid (HB2.out.trans (hb4.mono HB2.out.size))
      have HCT := Lib.hid (show ∀ W : World, Calls Try.prog 32 #[.int .i64 8, .int .u64 x] W fun en w' => en = .returned (.int .u64 (x % 256)) ∧ w' = W from fun W => (cut_any 8 x W).mono fun _ _ h => ⟨by rw [h.1, HC8.out], h.2.symm⟩)
      clear hyy hu hb3 hb4
      go_wp2_with fail
      go_quiet ((go_at_call 32; exact Calls.quiet_of_same (HCT.out _)))
      go_wp2_with fail
      go_ret
      exact ⟨rfl, below_drewN HB3.out _⟩
  · rw [if_neg h19] at hout
    subst hout
    cases wide with
    | true =>
      rw [if_pos rfl] at hv
      subst hv
      go_enter Try.func6, Try.ntmps6
      go_wp2_with fail
      refine Calls.mono (vawake_any w) ?_
      rintro en w1 ⟨rfl, hb⟩
      have HB := Lib.hid hb
      clear hb
      go_wp2_with (go_at_call 32; refine (cut_any _ _ _).mono ?_; rintro en w' ⟨rfl, rfl⟩)
      refine Calls.mono (all_lit _ _ 6 (Vl.ap6 op 64 64 (Wd.cut 64 x) (Wd.cut 64 y)) _ (NdSl.lit w1 _ _ 6 rfl rfl (by omega) HWF.out) (by omega) HOK.out HQ.out) ?_
      rintro en w2 ⟨B, m, c, rfl, hu, hb2⟩
      obtain rfl : m = 6 := by have := hu.hlen; simpa using this.symm
      obtain ⟨bv, ov, rfl, hbv, hyy⟩ := hu.mem (by omega)
      have y2 : w2.cell? ⟨bv, ov + 2, none⟩ = some (.int .u64 (Wd.app op 64 x y)) := hyy 2 (by omega)
      have y4 : w2.cell? ⟨bv, ov + 4, none⟩ = some (.int .u64 (Wd.cut 64 y)) := hyy 4 (by omega)
      have y5 : w2.cell? ⟨bv, ov + 5, none⟩ = some (.int .u64 (Wd.app 5 64 x 0)) := hyy 5 (by omega)
      have HB2 := Lib.hid (HB.out.trans ((Below.trans (Below.box _ _) (hb2.mono (by simp))).mono HB.out.size))
      clear hyy hu hb2
      go_wp2_with fail
      go_quiet (first | (go_at_call 33; exact Calls.quiet_of (app_any _ _ _ _ _)) | (go_at_call 32; exact Calls.quiet_of_same ((cut_any _ _ _).mono fun _ _ h => ⟨h.1, h.2.symm⟩)))
      clear y2 y4 y5
      go_wp2_with fail
      refine Calls.mono (all_lit _ _ 3 (Vl.ap3 x) _ (NdSl.lit (w2.drewN nq) _ _ 3 rfl rfl (by omega) HW3.out) (by omega) Vl.ok3 Vl.vals3) ?_
      rintro en w3 ⟨B3, m3, c3, rfl, hu, hb3⟩
      obtain rfl : m3 = 3 := by have := hu.hlen; simpa using this.symm
      obtain ⟨bv3, ov3, rfl, hbv3, hyy⟩ := hu.mem (by omega)
      have y1 : w3.cell? ⟨bv3, ov3 + 1, none⟩ = some (.int .u64 (x % 256)) := hyy 1 (by omega)
      have y2 : w3.cell? ⟨bv3, ov3 + 2, none⟩ = some (.int .u64 (x % 256)) := hyy 2 (by omega)
      have hb4 : Below w2.heap.size w2 w3 := ((below_drewN (Below.refl _ _) nq).trans (Below.box _ _)).trans (hb3.mono (by simp))
      have HB3 := Lib.hid (HB2.out.trans (hb4.mono HB2.out.size))
      have HCT := Lib.hid (show ∀ W : World, Calls Try.prog 32 #[.int .i64 8, .int .u64 x] W fun en w' => en = .returned (.int .u64 (x % 256)) ∧ w' = W from fun W => (cut_any 8 x W).mono fun _ _ h => ⟨by rw [h.1, HC8.out], h.2.symm⟩)
      clear hyy hu hb3 hb4
      go_wp2_with fail
      go_quiet ((go_at_call 32; exact Calls.quiet_of_same (HCT.out _)))
      go_wp2_with fail
      go_ret
      exact ⟨rfl, below_drewN HB3.out _⟩
    | false =>
      rw [if_neg (by simp)] at hv
      subst hv
      go_enter Try.func6, Try.ntmps6
      go_wp2_with fail
      refine Calls.mono (vawake_any w) ?_
      rintro en w1 ⟨rfl, hb⟩
      have HB := Lib.hid hb
      clear hb
      go_wp2_with (go_at_call 32; refine (cut_any _ _ _).mono ?_; rintro en w' ⟨rfl, rfl⟩)
      refine Calls.mono (all_lit _ _ 6 (Vl.ap6 op 8 8 (Wd.cut 8 x) (Wd.cut 8 y)) _ (NdSl.lit w1 _ _ 6 rfl rfl (by omega) HWF.out) (by omega) HOK.out HQ.out) ?_
      rintro en w2 ⟨B, m, c, rfl, hu, hb2⟩
      obtain rfl : m = 6 := by have := hu.hlen; simpa using this.symm
      obtain ⟨bv, ov, rfl, hbv, hyy⟩ := hu.mem (by omega)
      have y2 : w2.cell? ⟨bv, ov + 2, none⟩ = some (.int .u64 (Wd.app op 8 x y)) := hyy 2 (by omega)
      have y4 : w2.cell? ⟨bv, ov + 4, none⟩ = some (.int .u64 (Wd.cut 8 y)) := hyy 4 (by omega)
      have y5 : w2.cell? ⟨bv, ov + 5, none⟩ = some (.int .u64 (Wd.app 5 8 x 0)) := hyy 5 (by omega)
      have HB2 := Lib.hid (HB.out.trans ((Below.trans (Below.box _ _) (hb2.mono (by simp))).mono HB.out.size))
      clear hyy hu hb2
      go_wp2_with fail
      go_quiet (first | (go_at_call 33; exact Calls.quiet_of (app_any _ _ _ _ _)) | (go_at_call 32; exact Calls.quiet_of_same ((cut_any _ _ _).mono fun _ _ h => ⟨h.1, h.2.symm⟩)))
      clear y2 y4 y5
      go_wp2_with fail
      refine Calls.mono (all_lit _ _ 3 (Vl.ap3 x) _ (NdSl.lit (w2.drewN nq) _ _ 3 rfl rfl (by omega) HW3.out) (by omega) Vl.ok3 Vl.vals3) ?_
      rintro en w3 ⟨B3, m3, c3, rfl, hu, hb3⟩
      obtain rfl : m3 = 3 := by have := hu.hlen; simpa using this.symm
      obtain ⟨bv3, ov3, rfl, hbv3, hyy⟩ := hu.mem (by omega)
      have y1 : w3.cell? ⟨bv3, ov3 + 1, none⟩ = some (.int .u64 (x % 256)) := hyy 1 (by omega)
      have y2 : w3.cell? ⟨bv3, ov3 + 2, none⟩ = some (.int .u64 (x % 256)) := hyy 2 (by omega)
      have hb4 : Below w2.heap.size w2 w3 := ((below_drewN (Below.refl _ _) nq).trans (Below.box _ _)).trans (hb3.mono (by simp))
      have HB3 := Lib.hid (HB2.out.trans (hb4.mono HB2.out.size))
      have HCT := Lib.hid (show ∀ W : World, Calls Try.prog 32 #[.int .i64 8, .int .u64 x] W fun en w' => en = .returned (.int .u64 (x % 256)) ∧ w' = W from fun W => (cut_any 8 x W).mono fun _ _ h => ⟨by rw [h.1, HC8.out], h.2.symm⟩)
      clear hyy hu hb3 hb4
      go_wp2_with fail
      go_quiet ((go_at_call 32; exact Calls.quiet_of_same (HCT.out _)))
      go_wp2_with fail
      go_ret
      exact ⟨rfl, below_drewN HB3.out _⟩
theorem vapplies_any (op x y : Int) (wide : Bool) (w : World) (hx : (Lit.int .u64 x).wf = true) (hy : (Lit.int .u64 y).wf = true) :
    Calls Try.prog 6 #[.int .i64 op, .int .u64 x, .int .u64 y, .bool wide] w fun en w' => en = .returned (.bool true) ∧ Below w.heap.size w w' := by
  obtain ⟨a, rfl, ha⟩ := u64_nat hx
  obtain ⟨b, rfl, hb⟩ := u64_nat hy
  by_cases h : op < 8 ∨ 21 < op
  · exact vapplies_low op a b wide w h
  · exact vapplies_at op a b _ _ wide w (by omega) rfl rfl (by omega) (by omega)
end Go.Proofs.Ytdbcpnpcnkccaaa
