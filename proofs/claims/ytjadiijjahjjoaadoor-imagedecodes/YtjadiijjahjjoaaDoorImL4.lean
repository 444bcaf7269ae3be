/-
  Are two images the same? Contracts of bytes.Equal, slices.Equal, the reference's Ints, and both Same.
-/
import Derived.Test.YtjadiijjahjjoaaDoorImOp
import Derived.Test.YtjadiijjahjjoaaDoorImP2
namespace Go.Proofs.YtjadiijjahjjoaaDoor
open Go.RowKit

namespace Im
instance : DecidableEq I5 := fun a b =>
  if h : a.op = b.op ∧ a.a = b.a ∧ a.b = b.b ∧ a.c = b.c ∧ a.m = b.m then isTrue (by
    obtain ⟨_, _, _, _, _⟩ := a
    obtain ⟨_, _, _, _, _⟩ := b
    simp only at h
    obtain ⟨rfl, rfl, rfl, rfl, rfl⟩ := h
    rfl)
  else isFalse (fun e => h (by subst e; exact ⟨rfl, rfl, rfl, rfl, rfl⟩))
theorem list_eq {α : Type} {z : α} {xs ys : List α} (hl : xs.length = ys.length) (h : ∀ i, i < xs.length → xs.getD i z = ys.getD i z) : xs = ys := by
  apply List.ext_getElem?
  intro i
  rcases Nat.lt_or_ge i xs.length with hi | hi
  · have := h i hi
    rw [List.getD_eq_getElem?_getD, List.getD_eq_getElem?_getD, List.getElem?_eq_getElem hi, List.getElem?_eq_getElem (by omega)] at this
    rw [List.getElem?_eq_getElem hi, List.getElem?_eq_getElem (by omega)]
    exact congrArg some this
  · rw [List.getElem?_eq_none hi, List.getElem?_eq_none (by omega)]
def same (p q : Pic) : Bool := decide (p.mem = q.mem) && decide (p.stk = q.stk) && decide (p.inp = q.inp) && decide (p.ds = q.ds) && decide (p.fs = q.fs) && decide (p.cs = q.cs)
theorem same_eq {p q : Pic} : same p q = true ↔ p = q := by
  obtain ⟨a, b, c, d, e, f⟩ := p
  obtain ⟨a', b', c', d', e', f'⟩ := q
  simp only [same, Bool.and_eq_true, decide_eq_true_eq, Pic.mk.injEq]
  constructor
  · rintro ⟨⟨⟨⟨⟨h1, h2⟩, h3⟩, h4⟩, h5⟩, h6⟩
    exact ⟨h1, h2, h3, h4, h5, h6⟩
  · rintro ⟨h1, h2, h3, h4, h5, h6⟩
    exact ⟨⟨⟨⟨⟨h1, h2⟩, h3⟩, h4⟩, h5⟩, h6⟩
end Im

set_option maxHeartbeats 800000 in
theorem eqB_any (A A' : Option Addr) (n c n' c' : Nat) (xs ys : List Int) (w : World) (hx : BySl w A n c xs) (hy : BySl w A' n' c' ys) :
    Calls Tryd.prog 28 #[.slice A n c, .slice A' n' c'] w fun e w' => e = .returned (.bool (decide (xs = ys))) ∧ w = w' := by
  have h1 := by_str hx
  have h2 := by_str hy
  have hq : decide (xs = ys) = decide (strOfNums xs = strOfNums ys) := decide_eq_decide.2 ⟨fun e => by rw [e], fun e => strOfNums_inj (fun x hx' => Im.mem_isB hx.isB hx') (fun x hx' => Im.mem_isB hy.isB hx') e⟩
  have HQ := Lib.hid hq
  clear hq hx hy
  generalize strOfNums xs = S at *
  generalize strOfNums ys = L at *
  go_enter Tryd.func28, Tryd.ntmps28
  go_wp2
  go_ret
  refine ⟨ret_bool ?_, rfl⟩
  rw [HQ.out]
  by_cases e : S = L
  · subst e; simp
  · have : (S.toList == L.toList) = false := by
      rw [Bool.eq_false_iff]
      exact fun h => e (bytes_of_beq h)
    simp [e, this]

set_option maxHeartbeats 800000 in
theorem eqI_any (A A' : Option Addr) (n c n' c' : Nat) (xs ys : List Int) (w : World) (hx : InSl w A n c xs) (hy : InSl w A' n' c' ys) :
    Calls Tryd.prog 29 #[.slice A n c, .slice A' n' c'] w fun e w' => e = .returned (.bool (decide (xs = ys))) ∧ Below w.heap.size w w' := by
  have hxl := hx.hlen
  have hyl := hy.hlen
  have hm := Nat.le_trans hx.hle hx.hcap
  have hm' := Nat.le_trans hy.hle hy.hcap
  unfold maxLen at hm hm'
  by_cases hn : n = n'
  · subst hn
    have HX := Lib.hid hx
    have HY := Lib.hid hy
    have HXL := Lib.hid hxl
    have HYL := Lib.hid hyl
    clear hx hy hxl hyl
    go_enter Tryd.func29, Tryd.ntmps29
    go_wp2
    go_loopw [13] (fun i wr => ∃ k : Nat, k ≤ n ∧ i = .int .i64 k ∧ Below w.heap.size w wr ∧ ∀ j, j < k → xs.getD j 0 = ys.getD j 0) (fun i _ => n - (intOf i).toNat)
    case atStart => exact ⟨0, by omega, rfl, Below.refl _ _, fun j hj => absurd hj (by omega)⟩
    case round =>
      obtain ⟨k, hk, rfl, hbr, hall⟩ := hrel
      have HR := Lib.hid hbr
      have HA := Lib.hid hall
      clear hbr hall
      by_cases hlt : k < n
      · obtain ⟨b, o, rfl, _, hcx⟩ := (HX.out.below HR.out).mem (by omega)
        obtain ⟨b', o', rfl, _, hcy⟩ := (HY.out.below HR.out).mem (by omega)
        have d0 := hcx k hlt
        have d1 := hcy k hlt
        have hki : (k : Int) < n := by omega
        have hz : ∃ z0 z1, xs.getD k 0 = z0 ∧ ys.getD k 0 = z1 := ⟨_, _, rfl, rfl⟩
        obtain ⟨z0, z1, e0, e1⟩ := hz
        rw [e0] at d0
        rw [e1] at d1
        have E0 := Lib.hid e0
        have E1 := Lib.hid e1
        clear e0 e1 hcx hcy
        by_cases hz : z0 = z1
        · have hz' : (z0 != z1) = false := by simpa using hz
          go_wp2_with fail
          go_quiet (fail)
          go_wp2
          go_roundw
          case rel =>
            refine ⟨k + 1, by omega, by go_num, below_drewN HR.out nq, fun j hj => ?_⟩
            rcases Nat.lt_succ_iff_lt_or_eq.1 hj with h | h
            · exact HA.out j h
            · rw [h, E0.out, E1.out]; exact hz
          case measure => simp [intOf]; omega
        · have hz' : (z0 != z1) = true := by simpa using hz
          go_wp2_with fail
          go_quiet (fail)
          go_wp2
          go_ret
          refine ⟨ret_bool (decide_eq_false ?_).symm, below_drewN HR.out nq⟩
          intro e
          rw [← E0.out, ← E1.out, e] at hz
          exact hz rfl
      · go_wp2
        go_ret
        refine ⟨ret_bool (decide_eq_true ?_).symm, HR.out⟩
        exact Im.list_eq (z := 0) (by rw [HXL.out, HYL.out]) fun i hi => HA.out i (by have := HXL.out; omega)
  · have hne : ((n : Int) != (n' : Int)) = true := by
      have : ¬ (n : Int) = n' := by omega
      simpa using this
    have hq : decide (xs = ys) = false := decide_eq_false fun e => hn (by rw [← hxl, ← hyl, e])
    rw [hq]
    clear hx hy hxl hyl
    go_enter Tryd.func29, Tryd.ntmps29
    go_wp2
    go_ret
    exact ⟨rfl, Below.refl _ _⟩

set_option maxHeartbeats 800000 in
theorem ints_any (A A' : Option Addr) (n c n' c' : Nat) (xs ys : List Int) (w : World) (hx : InSl w A n c xs) (hy : InSl w A' n' c' ys) :
    Calls Tryd.prog 27 #[.slice A n c, .slice A' n' c'] w fun e w' => e = .returned (.bool (decide (xs = ys))) ∧ Below w.heap.size w w' := by
  have hxl := hx.hlen
  have hyl := hy.hlen
  have hm := Nat.le_trans hx.hle hx.hcap
  have hm' := Nat.le_trans hy.hle hy.hcap
  unfold maxLen at hm hm'
  by_cases hn : n = n'
  · subst hn
    have HX := Lib.hid hx
    have HY := Lib.hid hy
    have HXL := Lib.hid hxl
    have HYL := Lib.hid hyl
    clear hx hy hxl hyl
    go_enter Tryd.func27, Tryd.ntmps27
    go_wp2
    go_loopw [5] (fun i wr => ∃ k : Nat, k ≤ n ∧ i = .int .i64 k ∧ Below w.heap.size w wr ∧ ∀ j, j < k → xs.getD j 0 = ys.getD j 0) (fun i _ => n - (intOf i).toNat)
    case atStart => exact ⟨0, by omega, rfl, Below.refl _ _, fun j hj => absurd hj (by omega)⟩
    case round =>
      obtain ⟨k, hk, rfl, hbr, hall⟩ := hrel
      have HR := Lib.hid hbr
      have HA := Lib.hid hall
      clear hbr hall
      by_cases hlt : k < n
      · obtain ⟨b, o, rfl, _, hcx⟩ := (HX.out.below HR.out).mem (by omega)
        obtain ⟨b', o', rfl, _, hcy⟩ := (HY.out.below HR.out).mem (by omega)
        have d0 := hcx k hlt
        have d1 := hcy k hlt
        have hki : (k : Int) < n := by omega
        have hz : ∃ z0 z1, xs.getD k 0 = z0 ∧ ys.getD k 0 = z1 := ⟨_, _, rfl, rfl⟩
        obtain ⟨z0, z1, e0, e1⟩ := hz
        rw [e0] at d0
        rw [e1] at d1
        have E0 := Lib.hid e0
        have E1 := Lib.hid e1
        clear e0 e1 hcx hcy
        by_cases hz : z0 = z1
        · have hz' : (z0 != z1) = false := by simpa using hz
          go_wp2_with fail
          go_quiet (fail)
          go_wp2
          go_roundw
          case rel =>
            refine ⟨k + 1, by omega, by go_num, below_drewN HR.out nq, fun j hj => ?_⟩
            rcases Nat.lt_succ_iff_lt_or_eq.1 hj with h | h
            · exact HA.out j h
            · rw [h, E0.out, E1.out]; exact hz
          case measure => simp [intOf]; omega
        · have hz' : (z0 != z1) = true := by simpa using hz
          go_wp2_with fail
          go_quiet (fail)
          go_wp2
          go_ret
          refine ⟨ret_bool (decide_eq_false ?_).symm, below_drewN HR.out nq⟩
          intro e
          rw [← E0.out, ← E1.out, e] at hz
          exact hz rfl
      · go_wp2
        go_ret
        refine ⟨ret_bool (decide_eq_true ?_).symm, HR.out⟩
        exact Im.list_eq (z := 0) (by rw [HXL.out, HYL.out]) fun i hi => HA.out i (by have := HXL.out; omega)
  · have hne : ((n : Int) != (n' : Int)) = true := by
      have : ¬ (n : Int) = n' := by omega
      simpa using this
    have hq : decide (xs = ys) = false := decide_eq_false fun e => hn (by rw [← hxl, ← hyl, e])
    rw [hq]
    clear hx hy hxl hyl
    go_enter Tryd.func27, Tryd.ntmps27
    go_wp2
    go_ret
    exact ⟨rfl, Below.refl _ _⟩

set_option maxHeartbeats 800000 in
theorem eqC_any (A A' : Option Addr) (n c n' c' : Nat) (xs ys : List Im.I5) (w : World) (hx : CoSl w A n c xs) (hy : CoSl w A' n' c' ys) :
    Calls Tryd.prog 30 #[.slice A n c, .slice A' n' c'] w fun e w' => e = .returned (.bool (decide (xs = ys))) ∧ Below w.heap.size w w' := by
  have hxl := hx.hlen
  have hyl := hy.hlen
  have hm := Nat.le_trans hx.hle hx.hcap
  have hm' := Nat.le_trans hy.hle hy.hcap
  unfold maxLen at hm hm'
  by_cases hn : n = n'
  · subst hn
    have HX := Lib.hid hx
    have HY := Lib.hid hy
    have HXL := Lib.hid hxl
    have HYL := Lib.hid hyl
    clear hx hy hxl hyl
    go_enter Tryd.func30, Tryd.ntmps30
    go_wp2
    go_loopw [13] (fun i wr => ∃ k : Nat, k ≤ n ∧ i = .int .i64 k ∧ Below w.heap.size w wr ∧ ∀ j, j < k → xs.getD j Im.z5 = ys.getD j Im.z5) (fun i _ => n - (intOf i).toNat)
    case atStart => exact ⟨0, by omega, rfl, Below.refl _ _, fun j hj => absurd hj (by omega)⟩
    case round =>
      obtain ⟨k, hk, rfl, hbr, hall⟩ := hrel
      have HR := Lib.hid hbr
      have HA := Lib.hid hall
      clear hbr hall
      by_cases hlt : k < n
      · obtain ⟨b, o, rfl, _, hcx⟩ := (HX.out.below HR.out).mem (by omega)
        obtain ⟨b', o', rfl, _, hcy⟩ := (HY.out.below HR.out).mem (by omega)
        have d0 := hcx k hlt
        have d1 := hcy k hlt
        have hki : (k : Int) < n := by omega
        have hz : ∃ z0 z1, xs.getD k Im.z5 = z0 ∧ ys.getD k Im.z5 = z1 := ⟨_, _, rfl, rfl⟩
        obtain ⟨⟨p0, p1, p2, p3, p4⟩, ⟨r0, r1, r2, r3, r4⟩, e0, e1⟩ := hz
        rw [e0] at d0
        rw [e1] at d1
        obtain ⟨x0, x1, x2, x3, x4⟩ := d0
        obtain ⟨y0, y1, y2, y3, y4⟩ := d1
        simp only at x0 x1 x2 x3 x4 y0 y1 y2 y3 y4
        have E0 := Lib.hid e0
        have E1 := Lib.hid e1
        have hne := neq_ins p0 p1 p2 p3 p4 r0 r1 r2 r3 r4
        clear e0 e1 hcx hcy
        by_cases hz : (⟨p0, p1, p2, p3, p4⟩ : Im.I5) = ⟨r0, r1, r2, r3, r4⟩
        · have hz' : Cd.same p0 p1 p2 p3 p4 r0 r1 r2 r3 r4 = true := by
            simp only [Im.I5.mk.injEq] at hz
            exact decide_eq_true hz
          rw [hz'] at hne
          clear hz'
          go_wp2_with fail
          go_quiet (fail)
          go_wp2
          go_roundw
          case rel =>
            refine ⟨k + 1, by omega, by go_num, below_drewN HR.out nq, fun j hj => ?_⟩
            rcases Nat.lt_succ_iff_lt_or_eq.1 hj with h | h
            · exact HA.out j h
            · rw [h, E0.out, E1.out]; exact hz
          case measure => simp [intOf]; omega
        · have hz' : Cd.same p0 p1 p2 p3 p4 r0 r1 r2 r3 r4 = false := by
            simp only [Im.I5.mk.injEq] at hz
            exact decide_eq_false hz
          rw [hz'] at hne
          clear hz'
          go_wp2_with fail
          go_quiet (fail)
          go_wp2
          go_ret
          refine ⟨ret_bool (decide_eq_false ?_).symm, below_drewN HR.out nq⟩
          intro e
          rw [← E0.out, ← E1.out, e] at hz
          exact hz rfl
      · go_wp2
        go_ret
        refine ⟨ret_bool (decide_eq_true ?_).symm, HR.out⟩
        exact Im.list_eq (z := Im.z5) (by rw [HXL.out, HYL.out]) fun i hi => HA.out i (by have := HXL.out; omega)
  · have hnn : ((n : Int) != (n' : Int)) = true := by
      have : ¬ (n : Int) = n' := by omega
      simpa using this
    have hq : decide (xs = ys) = false := decide_eq_false fun e => hn (by rw [← hxl, ← hyl, e])
    rw [hq]
    clear hx hy hxl hyl
    go_enter Tryd.func30, Tryd.ntmps30
    go_wp2
    go_ret
    exact ⟨rfl, Below.refl _ _⟩

end Go.Proofs.YtjadiijjahjjoaaDoor
