/-
  Layer 7: contracts of the reference's get, one.
  Layer 7: contract of the reference's one.
  Layer 7: contracts of the reference's Values, Of, All, Byte, Words, Small.
  Layer 7: contracts of the reference's Of, All, Byte, Words, Small.
-/
import Derived.Test.YtdbcpnpcnkccaaaMN
import Derived.Test.YtdbcpnpcnkccaaaMR
set_option linter.unusedSimpArgs false
set_option linter.unusedVariables false
namespace Go.Proofs.Ytdbcpnpcnkccaaa
set_option maxRecDepth 100000
open Go.RowKit Go.Maps

theorem UsR.at {w : World} {b o len cap : Nat} {l : List Int} (h : UsR w (some ⟨b, o, none⟩) len cap l) {i : Nat} (hi : i < len) : b < w.heap.size ∧ w.cell? ⟨b, o + i, none⟩ = some (.int .u64 (l.getD i 0)) := by
  obtain ⟨b', o', e, hl, hx⟩ := h.mem (by omega)
  injection e with e
  injection e with e1 e2
  subst e1 e2
  exact ⟨hl, hx i hi⟩

set_option maxHeartbeats 8000000 in
theorem rget_any (AX : Option Addr) (lx cx : Nat) (X : List Tm.Nd) (AV : Option Addr) (lv cv : Nat) (v : List Int) (E : EnV) (e : Vl.Env) (arr k : Nat) (w : World) (hX : NdR w AX lx cx X) (hV : UsR w AV lv cv v) (hE : EnIn w (fun _ => False) E e)
    (hd : Vl.Down X (arr + 1)) (ha : arr < lx) (hav : arr ≤ lv) (hu : Vl.U v) :
    Calls Try.prog 54 #[.slice AX lx cx, .slice AV lv cv, E.v, .int .i64 arr, .int .u64 k] w fun en w' => en = .returned (.int .u8 (Vl.get X v e.mem (arr + 1) arr k)) ∧ Below w.heap.size w w' := by
  have hB := Below.box w (.cells #[.slice E.A1 E.n1 E.c1, .int .u64 E.r0, .int .u64 E.r1, .int .u64 E.r2, .int .u64 E.r3, .int .u64 E.r4, .int .u64 E.r5, .int .u64 E.r6, .int .u64 E.r7, .slice E.A2 E.n2 E.c2] 43)
  have HB := Lib.hid hB
  have HX := Lib.hid (hX.below hB)
  have HV := Lib.hid (hV.below hB)
  have HE := Lib.hid (hE.box)
  have hbv : EnB (w.alloc (.cells #[.slice E.A1 E.n1 E.c1, .int .u64 E.r0, .int .u64 E.r1, .int .u64 E.r2, .int .u64 E.r3, .int .u64 E.r4, .int .u64 E.r5, .int .u64 E.r6, .int .u64 E.r7, .slice E.A2 E.n2 E.c2] 43)) w.heap.size E := Blk.new _ _ _
  obtain ⟨e0, e1, e2, e3, e4, e5, e6, e7, e8, e9⟩ := hbv.cells
  clear e0 e1 e2 e3 e4 e5 e6 e7 e8 hbv
  have HD := Lib.hid hd
  have HA := Lib.hid ha
  have HAV := Lib.hid hav
  have HU := Lib.hid hu
  have hcm := hX.hcap
  have hcl := hX.hle
  unfold maxLen at hcm
  clear hB hX hV hE hd ha hav hu
  generalize hG : Vl.get X v e.mem (arr + 1) arr k = G
  have HG := Lib.hid hG
  clear hG
  rw [env_v]
  go_enter Try.func54, Try.ntmps54
  go_wp2_with fail
  generalize w.alloc (.cells #[.slice E.A1 E.n1 E.c1, .int .u64 E.r0, .int .u64 E.r1, .int .u64 E.r2, .int .u64 E.r3, .int .u64 E.r4, .int .u64 E.r5, .int .u64 E.r6, .int .u64 E.r7, .slice E.A2 E.n2 E.c2] 43) = W1 at *
  go_loopw [3] (fun t wr => W1 = wr ∧ ∃ a : Nat, t = .int .i64 a ∧ a ≤ arr ∧ Vl.get X v e.mem (a + 1) a k = G) (fun t _ => (intOf t).toNat)
  case atStart => exact ⟨rfl, arr, rfl, Nat.le_refl _, HG.out⟩
  case round =>
    obtain ⟨rfl, a, rfl, hle, hg⟩ := hrel
    have hlx : a < lx := by have := HA.out; omega
    have hlx' : (a : Int) < lx := by omega
    obtain ⟨bx, ox, rfl, hbx, _⟩ := HX.out.mem (by omega)
    obtain ⟨x0, x1, x2, x3, x4, x5⟩ := (HX.out.at hlx).2
    have hdd := HD.out a (by omega)
    rw [Vl.get, Int.toNat_natCast] at hg
    generalize hnd : X.getD a Tm.z = nd at *
    have HND := Lib.hid hnd
    clear hnd
    obtain ⟨op, wd, n, ka, kb, kc⟩ := nd
    dsimp only at x0 x1 x2 x3 x4 x5 hdd hg
    by_cases ho : op = 24
    · obtain ⟨⟨a0, a1⟩, ⟨b0, b1⟩, c0, c1⟩ := hdd ho
      obtain ⟨ia, rfl⟩ := Int.eq_ofNat_of_zero_le a0
      obtain ⟨ib, rfl⟩ := Int.eq_ofNat_of_zero_le b0
      obtain ⟨ic, rfl⟩ := Int.eq_ofNat_of_zero_le c0
      rw [if_pos ho, Int.toNat_natCast, Int.toNat_natCast] at hg
      obtain ⟨bv, ov, rfl, hbv, _⟩ := HV.out.mem (by have := HAV.out; omega)
      have yb := (HV.out.at (i := ib) (by have := HAV.out; omega)).2
      have yc := (HV.out.at (i := ic) (by have := HAV.out; omega)).2
      have hib : (ib : Int) < lv := by have := HAV.out; omega
      have hic : (ic : Int) < lv := by have := HAV.out; omega
      subst ho
      generalize v.getD ib 0 = vb at *
      generalize v.getD ic 0 = vc at *
      by_cases hk : vb = (k : Int)
      · rw [if_pos hk] at hg
        subst hk
        have hwr : IntKind.u8.wrap vc = vc % 256 := by rw [IntKind.wrap_u8]
        have hwg : IntKind.u8.wrap vc = G := hwr.trans hg
        clear hg hwr hdd
        go_wp2_with fail
        go_ret
        exact ⟨rfl, HB.out⟩
      · rw [if_neg hk] at hg
        have hkb : (vb == (k : Int)) = false := by simp [hk]
        have HGN := Lib.hid hg
        clear hg hdd hk
        go_wp2_with fail
        go_roundw
        case rel =>
          refine ⟨trivial, ia, rfl, by omega, ?_⟩
          rw [← HGN.out]
          exact (Vl.get_fuel (m := arr) (fun t ht => HD.out t (by omega)) a ia (by omega) (by omega)).symm
        case measure => simp [intOf]; omega
    · rw [if_neg ho] at hg
      have hob : (op == 24) = false := by simp [ho]
      clear hdd
      by_cases h3 : op = 3
      · subst h3
        rw [if_pos rfl] at hg
        have H1 := Lib.hid (at_any E.A2 E.n2 E.c2 e.mem k W1 HE.out.mem.r)
        rw [hg] at H1
        clear hg ho
        go_wp2_with (go_at_call 34; refine H1.out.mono ?_; rintro en w' ⟨rfl, rfl⟩)
        go_ret
        exact ⟨rfl, HB.out⟩
      · rw [if_neg h3] at hg
        have h3b : (op == 3) = false := by simp [h3]
        subst hg
        clear h3 ho
        go_wp2_with fail
        go_ret
        exact ⟨rfl, HB.out⟩
end Go.Proofs.Ytdbcpnpcnkccaaa
namespace Go.Proofs.Ytdbcpnpcnkccaaa
set_option maxRecDepth 100000
open Go.RowKit Go.Maps

theorem Tm.kok_b {nd : Tm.Nd} {len : Nat} (h : Tm.kok nd len = true) (hk : Tm.kidn nd.op = 1) : nd.b = 0 := by
  unfold Tm.kok at h
  simp only [Bool.and_eq_true] at h
  simpa [hk] using h.2.1

set_option maxHeartbeats 4000000 in
theorem rone6 (ia : Nat) (va b c : Int) (wd n : Int) (AX : Option Addr) (lx cx : Nat) (bv ov lv cv : Nat) (E : EnV) (w : World) (hbv : bv < w.heap.size) (hia : ia < lv) (yia : w.cell? ⟨bv, ov + ia, none⟩ = some (.int .u64 va)) :
    Calls Try.prog 77 #[.slice AX lx cx, .slice (some ⟨bv, ov, none⟩) lv cv, .agg #[.slice E.A1 E.n1 E.c1, .int .u64 E.r0, .int .u64 E.r1, .int .u64 E.r2, .int .u64 E.r3, .int .u64 E.r4, .int .u64 E.r5, .int .u64 E.r6, .int .u64 E.r7, .slice E.A2 E.n2 E.c2], .agg #[.int .i64 6, .int .i64 wd, .int .u64 n, .int .i64 (ia : Nat), .int .i64 b, .int .i64 c]] w fun en w' => en = .returned (.int .u64 (va)) ∧ Below w.heap.size w w' := by
  have HB := Lib.hid (show Below w.heap.size w ((w.alloc (.cells #[.slice E.A1 E.n1 E.c1, .int .u64 E.r0, .int .u64 E.r1, .int .u64 E.r2, .int .u64 E.r3, .int .u64 E.r4, .int .u64 E.r5, .int .u64 E.r6, .int .u64 E.r7, .slice E.A2 E.n2 E.c2] 43)).alloc (.cells #[.int .i64 6, .int .i64 wd, .int .u64 n, .int .i64 (ia : Nat), .int .i64 b, .int .i64 c] 36)) from (Below.box _ _).trans ((Below.box _ _).mono (by simp)))
  have m1 : bv < w.heap.size + 1 := by omega
  have m2 : bv < w.heap.size + 1 + 1 := by omega
  have hia' : (ia : Int) < lv := by omega
  go_enter Try.func77, Try.ntmps77
  go_wp2_with fail
  go_ret
  exact ⟨rfl, HB.out⟩

set_option maxHeartbeats 4000000 in
theorem rone7 (ia : Nat) (va b c : Int) (wd n : Int) (AX : Option Addr) (lx cx : Nat) (bv ov lv cv : Nat) (E : EnV) (w : World) (hbv : bv < w.heap.size) (hia : ia < lv) (yia : w.cell? ⟨bv, ov + ia, none⟩ = some (.int .u64 va)) (h0 : 0 ≤ va) :
    Calls Try.prog 77 #[.slice AX lx cx, .slice (some ⟨bv, ov, none⟩) lv cv, .agg #[.slice E.A1 E.n1 E.c1, .int .u64 E.r0, .int .u64 E.r1, .int .u64 E.r2, .int .u64 E.r3, .int .u64 E.r4, .int .u64 E.r5, .int .u64 E.r6, .int .u64 E.r7, .slice E.A2 E.n2 E.c2], .agg #[.int .i64 7, .int .i64 wd, .int .u64 n, .int .i64 (ia : Nat), .int .i64 b, .int .i64 c]] w fun en w' => en = .returned (.int .u64 (va % 256)) ∧ Below w.heap.size w w' := by
  have HB := Lib.hid (show Below w.heap.size w ((w.alloc (.cells #[.slice E.A1 E.n1 E.c1, .int .u64 E.r0, .int .u64 E.r1, .int .u64 E.r2, .int .u64 E.r3, .int .u64 E.r4, .int .u64 E.r5, .int .u64 E.r6, .int .u64 E.r7, .slice E.A2 E.n2 E.c2] 43)).alloc (.cells #[.int .i64 7, .int .i64 wd, .int .u64 n, .int .i64 (ia : Nat), .int .i64 b, .int .i64 c] 36)) from (Below.box _ _).trans ((Below.box _ _).mono (by simp)))
  have m1 : bv < w.heap.size + 1 := by omega
  have m2 : bv < w.heap.size + 1 + 1 := by omega
  have hia' : (ia : Int) < lv := by omega
  have ht : va.tmod 256 = va % 256 := Int.tmod_eq_emod_of_nonneg h0
  go_enter Try.func77, Try.ntmps77
  go_wp2_with fail
  go_ret
  exact ⟨rfl, HB.out⟩

set_option maxHeartbeats 4000000 in
theorem rone22 (ia ib ic : Nat) (va vb vc : Int) (wd n : Int) (AX : Option Addr) (lx cx : Nat) (bv ov lv cv : Nat) (E : EnV) (w : World) (hbv : bv < w.heap.size) (hia : ia < lv) (yia : w.cell? ⟨bv, ov + ia, none⟩ = some (.int .u64 va)) (hib : ib < lv) (yib : w.cell? ⟨bv, ov + ib, none⟩ = some (.int .u64 vb)) (hic : ic < lv) (yic : w.cell? ⟨bv, ov + ic, none⟩ = some (.int .u64 vc)) :
    Calls Try.prog 77 #[.slice AX lx cx, .slice (some ⟨bv, ov, none⟩) lv cv, .agg #[.slice E.A1 E.n1 E.c1, .int .u64 E.r0, .int .u64 E.r1, .int .u64 E.r2, .int .u64 E.r3, .int .u64 E.r4, .int .u64 E.r5, .int .u64 E.r6, .int .u64 E.r7, .slice E.A2 E.n2 E.c2], .agg #[.int .i64 22, .int .i64 wd, .int .u64 n, .int .i64 (ia : Nat), .int .i64 (ib : Nat), .int .i64 (ic : Nat)]] w fun en w' => en = .returned (.int .u64 (if va = 1 then vb else vc)) ∧ Below w.heap.size w w' := by
  have HB := Lib.hid (show Below w.heap.size w ((w.alloc (.cells #[.slice E.A1 E.n1 E.c1, .int .u64 E.r0, .int .u64 E.r1, .int .u64 E.r2, .int .u64 E.r3, .int .u64 E.r4, .int .u64 E.r5, .int .u64 E.r6, .int .u64 E.r7, .slice E.A2 E.n2 E.c2] 43)).alloc (.cells #[.int .i64 22, .int .i64 wd, .int .u64 n, .int .i64 (ia : Nat), .int .i64 (ib : Nat), .int .i64 (ic : Nat)] 36)) from (Below.box _ _).trans ((Below.box _ _).mono (by simp)))
  have m1 : bv < w.heap.size + 1 := by omega
  have m2 : bv < w.heap.size + 1 + 1 := by omega
  have hia' : (ia : Int) < lv := by omega
  have hib' : (ib : Int) < lv := by omega
  have hic' : (ic : Int) < lv := by omega
  by_cases h1 : va = 1
  · subst h1
    rw [if_pos rfl]
    go_enter Try.func77, Try.ntmps77
    go_wp2_with fail
    go_ret
    exact ⟨rfl, HB.out⟩
  · rw [if_neg h1]
    have h1b : (va == 1) = false := by simp [h1]
    clear h1
    go_enter Try.func77, Try.ntmps77
    go_wp2_with fail
    go_ret
    exact ⟨rfl, HB.out⟩

set_option maxHeartbeats 4000000 in
theorem rone23 (ia ib : Nat) (vb : Nat) (c G : Int) (wd n : Int) (AX : Option Addr) (lx cx : Nat) (bv ov lv cv : Nat) (E : EnV) (w : World) (hbv : bv < w.heap.size) (hia : ia < lv) (hib : ib < lv) (yib : w.cell? ⟨bv, ov + ib, none⟩ = some (.int .u64 vb)) (hG : 0 ≤ G ∧ G < 256)
    (HG : Hid (∀ W, Below w.heap.size w W → Calls Try.prog 54 #[.slice AX lx cx, .slice (some ⟨bv, ov, none⟩) lv cv, .agg #[.slice E.A1 E.n1 E.c1, .int .u64 E.r0, .int .u64 E.r1, .int .u64 E.r2, .int .u64 E.r3, .int .u64 E.r4, .int .u64 E.r5, .int .u64 E.r6, .int .u64 E.r7, .slice E.A2 E.n2 E.c2], .int .i64 ia, .int .u64 vb] W fun en w' => en = .returned (.int .u8 G) ∧ Below W.heap.size W w')) :
    Calls Try.prog 77 #[.slice AX lx cx, .slice (some ⟨bv, ov, none⟩) lv cv, .agg #[.slice E.A1 E.n1 E.c1, .int .u64 E.r0, .int .u64 E.r1, .int .u64 E.r2, .int .u64 E.r3, .int .u64 E.r4, .int .u64 E.r5, .int .u64 E.r6, .int .u64 E.r7, .slice E.A2 E.n2 E.c2], .agg #[.int .i64 23, .int .i64 wd, .int .u64 n, .int .i64 (ia : Nat), .int .i64 (ib : Nat), .int .i64 c]] w fun en w' => en = .returned (.int .u64 (G)) ∧ Below w.heap.size w w' := by
  have HB := Lib.hid (show Below w.heap.size w ((w.alloc (.cells #[.slice E.A1 E.n1 E.c1, .int .u64 E.r0, .int .u64 E.r1, .int .u64 E.r2, .int .u64 E.r3, .int .u64 E.r4, .int .u64 E.r5, .int .u64 E.r6, .int .u64 E.r7, .slice E.A2 E.n2 E.c2] 43)).alloc (.cells #[.int .i64 23, .int .i64 wd, .int .u64 n, .int .i64 (ia : Nat), .int .i64 (ib : Nat), .int .i64 c] 36)) from (Below.box _ _).trans ((Below.box _ _).mono (by simp)))
  have m1 : bv < w.heap.size + 1 := by omega
  have m2 : bv < w.heap.size + 1 + 1 := by omega
  have hia' : (ia : Int) < lv := by omega
  have hib' : (ib : Int) < lv := by omega
  have hwr : IntKind.u64.wrap G = G := by rw [IntKind.wrap_u64]; omega
  go_enter Try.func77, Try.ntmps77
  go_wp2_with fail
  refine still_tail 12 (by kernel_rfl) (by kernel_rfl) ?_
  simp only [List.take_succ_cons, List.take_zero, List.drop_succ_cons, List.drop_zero]
  repeat still_step
  refine wpStill_nil ?_
  go_wp2_with fail
  have hBd := HB.out.trans ((below_drewN (Below.refl _ _) 1).mono HB.out.size)
  have HBD := Lib.hid hBd
  refine Calls.mono (HG.out _ hBd) ?_
  rintro en w' ⟨rfl, hb2⟩
  have HB2 := Lib.hid hb2
  clear hb2 hBd
  go_wp2_with fail
  go_ret
  exact ⟨rfl, HBD.out.trans (HB2.out.mono HBD.out.size)⟩

set_option maxHeartbeats 4000000 in
theorem roneA (op : Int) (ia ib : Nat) (va vb : Nat) (c vx : Int) (bx ox : Nat) (wd n : Int) (AX : Option Addr) (lx cx : Nat) (bv ov lv cv : Nat) (E : EnV) (w : World) (hbv : bv < w.heap.size) (hia : ia < lv) (yia : w.cell? ⟨bv, ov + ia, none⟩ = some (.int .u64 va)) (hib : ib < lv) (yib : w.cell? ⟨bv, ov + ib, none⟩ = some (.int .u64 vb)) (hva : va < 18446744073709551616) (hvb : vb < 18446744073709551616) (ho : op = 5 ∨ (8 ≤ op ∧ op ≤ 21))
    (hAX : AX = some ⟨bx, ox, none⟩) (hbx : bx < w.heap.size) (hX : ia < lx) (s0 : w.cell? ⟨bx, ox + ia * 6 + 1, none⟩ = some (.int .i64 vx)) :
    Calls Try.prog 77 #[.slice AX lx cx, .slice (some ⟨bv, ov, none⟩) lv cv, .agg #[.slice E.A1 E.n1 E.c1, .int .u64 E.r0, .int .u64 E.r1, .int .u64 E.r2, .int .u64 E.r3, .int .u64 E.r4, .int .u64 E.r5, .int .u64 E.r6, .int .u64 E.r7, .slice E.A2 E.n2 E.c2], .agg #[.int .i64 op, .int .i64 wd, .int .u64 n, .int .i64 (ia : Nat), .int .i64 (ib : Nat), .int .i64 c]] w fun en w' => en = .returned (.int .u64 (Wd.app op vx va vb)) ∧ Below w.heap.size w w' := by
  have HB := Lib.hid (show Below w.heap.size w ((w.alloc (.cells #[.slice E.A1 E.n1 E.c1, .int .u64 E.r0, .int .u64 E.r1, .int .u64 E.r2, .int .u64 E.r3, .int .u64 E.r4, .int .u64 E.r5, .int .u64 E.r6, .int .u64 E.r7, .slice E.A2 E.n2 E.c2] 43)).alloc (.cells #[.int .i64 op, .int .i64 wd, .int .u64 n, .int .i64 (ia : Nat), .int .i64 (ib : Nat), .int .i64 c] 36)) from (Below.box _ _).trans ((Below.box _ _).mono (by simp)))
  have m1 : bv < w.heap.size + 1 := by omega
  have m2 : bv < w.heap.size + 1 + 1 := by omega
  have hia' : (ia : Int) < lv := by omega
  have hib' : (ib : Int) < lv := by omega
  have hX' : (ia : Int) < lx := by omega
  have p1 : bx < w.heap.size + 1 := by omega
  have p2 : bx < w.heap.size + 1 + 1 := by omega
  subst hAX
  have g0 : (op == 0) = false := by simp; omega
  have g1 : (op == 1) = false := by simp; omega
  have g2 : (op == 2) = false := by simp; omega
  have g3 : (op == 3) = false := by simp; omega
  have g4 : (op == 4) = false := by simp; omega
  have g24 : (op == 24) = false := by simp; omega
  have g6 : (op == 6) = false := by simp; omega
  have g7 : (op == 7) = false := by simp; omega
  have g22 : (op == 22) = false := by simp; omega
  have g23 : (op == 23) = false := by simp; omega
  have HVA := Lib.hid hva
  have HVB := Lib.hid hvb
  clear ho hva hvb
  go_enter Try.func77, Try.ntmps77
  go_wp2_with fail
  refine still_tail 21 (by kernel_rfl) (by kernel_rfl) ?_
  simp only [List.take_succ_cons, List.take_zero, List.drop_succ_cons, List.drop_zero]
  repeat still_step
  refine wpStill_nil ?_
  go_wp2_with fail
  refine Calls.mono (rapply_any op vx va vb HVA.out HVB.out _) ?_
  rintro en w' ⟨rfl, hb2⟩
  have HB2 := Lib.hid hb2
  clear hb2
  go_wp2_with fail
  have hBd := HB.out.trans ((below_drewN (Below.refl _ _) 1).mono HB.out.size)
  go_ret
  exact ⟨rfl, hBd.trans (HB2.out.mono hBd.size)⟩

set_option maxHeartbeats 4000000 in
theorem rone_leaf (nd : Tm.Nd) (AX : Option Addr) (lx cx : Nat) (X : List Tm.Nd) (AV : Option Addr) (lv cv : Nat) (v : List Int) (E : EnV) (e : Vl.Env) (w : World) (hE : EnIn w (fun _ => False) E e)
    (ho : (0 ≤ nd.op ∧ nd.op ≤ 4) ∨ nd.op = 24) (hn : 0 ≤ nd.n ∧ nd.n < 18446744073709551616) (h2 : nd.op = 2 → nd.n < 8) :
    Calls Try.prog 77 #[.slice AX lx cx, .slice AV lv cv, E.v, ndv nd] w fun en w' => en = .returned (.int .u64 (Vl.one X v e nd)) ∧ Below w.heap.size w w' := by
  have hB : Below w.heap.size w ((w.alloc (.cells #[.slice E.A1 E.n1 E.c1, .int .u64 E.r0, .int .u64 E.r1, .int .u64 E.r2, .int .u64 E.r3, .int .u64 E.r4, .int .u64 E.r5, .int .u64 E.r6, .int .u64 E.r7, .slice E.A2 E.n2 E.c2] 43)).alloc (.cells #[.int .i64 nd.op, .int .i64 nd.w, .int .u64 nd.n, .int .i64 nd.a, .int .i64 nd.b, .int .i64 nd.c] 36)) := (Below.box _ _).trans ((Below.box _ _).mono (by simp))
  have HB := Lib.hid hB
  have HE := Lib.hid (hE.keep (Keep.of_below hB))
  have HER := Lib.hid hE.regs
  have HEI := Lib.hid hE.ok.inp
  clear hB hE
  obtain ⟨op, wd, n, a, b, c⟩ := nd
  dsimp only at ho hn h2 HB HE
  have henv : E.v = .agg #[.slice E.A1 E.n1 E.c1, .int .u64 E.r0, .int .u64 E.r1, .int .u64 E.r2, .int .u64 E.r3, .int .u64 E.r4, .int .u64 E.r5, .int .u64 E.r6, .int .u64 E.r7, .slice E.A2 E.n2 E.c2] := rfl
  rw [henv]
  clear henv
  have h6 : op = 0 ∨ op = 1 ∨ op = 2 ∨ op = 3 ∨ op = 4 ∨ op = 24 := by omega
  rcases h6 with rfl | rfl | rfl | rfl | rfl | rfl
  · go_enter Try.func77, Try.ntmps77
    go_wp2_with fail
    go_ret
    exact ⟨rfl, HB.out⟩
  · have hwr := HEI.out.wrap n
    obtain ⟨m, rfl⟩ := Int.eq_ofNat_of_zero_le hn.1
    have H1 := Lib.hid (at_any E.A1 E.n1 E.c1 e.inp m _ HE.out.inp.r)
    go_enter Try.func77, Try.ntmps77
    go_wp2_with (go_at_call 34; refine H1.out.mono ?_; rintro en w' ⟨rfl, rfl⟩)
    go_ret
    exact ⟨rfl, HB.out⟩
  · have h2 := h2 rfl
    have hn8 : n = 0 ∨ n = 1 ∨ n = 2 ∨ n = 3 ∨ n = 4 ∨ n = 5 ∨ n = 6 ∨ n = 7 := by omega
    clear h2 hn
    rcases hn8 with rfl | rfl | rfl | rfl | rfl | rfl | rfl | rfl
    all_goals
      go_enter Try.func77, Try.ntmps77
      go_wp2_with fail
      go_ret
      refine ⟨?_, HB.out⟩
      rw [Vl.one]
      simp only [show ¬ (2 : Int) = 0 by decide, show ¬ (2 : Int) = 1 by decide, if_true, if_false]
      rw [Vl.att, HER.out]
      rfl
  all_goals
    go_enter Try.func77, Try.ntmps77
    go_wp2_with fail
    go_ret
    exact ⟨rfl, HB.out⟩

set_option maxHeartbeats 4000000 in
theorem rone_any (AX : Option Addr) (lx cx : Nat) (X : List Tm.Nd) (AV : Option Addr) (lv cv : Nat) (v : List Int) (E : EnV) (e : Vl.Env) (nd : Tm.Nd) (w : World) (hX : NdR w AX lx cx X) (hV : UsR w AV lv cv v) (hE : EnIn w (fun _ => False) E e)
    (hd : Vl.Down X lv) (hl : lv ≤ lx) (hu : Vl.U v) (hk : Tm.kok nd lv = true) (ho : 0 ≤ nd.op ∧ nd.op ≤ 24) (hn : 0 ≤ nd.n ∧ nd.n < 18446744073709551616) (h2 : nd.op = 2 → nd.n < 8) :
    Calls Try.prog 77 #[.slice AX lx cx, .slice AV lv cv, E.v, ndv nd] w fun en w' => en = .returned (.int .u64 (Vl.one X v e nd)) ∧ Below w.heap.size w w' := by
  by_cases hlf : (0 ≤ nd.op ∧ nd.op ≤ 4) ∨ nd.op = 24
  · exact rone_leaf nd AX lx cx X AV lv cv v E e w hE hlf hn h2
  obtain ⟨k1, k2, k3⟩ := Tm.kok_in hk
  have hkb := Tm.kok_b hk
  have hs := Tm.kidn_spec nd.op
  obtain ⟨op, wd, n, a, b, c⟩ := nd
  dsimp only at ho hn h2 k1 k2 k3 hs hkb hlf
  obtain ⟨ia, rfl⟩ := Int.eq_ofNat_of_zero_le (k1 (by omega)).1
  have hia : ia < lv := by have := (k1 (by omega)).2; omega
  obtain ⟨bv, ov, rfl, hbv, _⟩ := hV.mem (by omega)
  have ya := (hV.at hia).2
  by_cases g6 : op = 6
  · subst g6
    exact rone6 ia (v.getD ia 0) b c wd n AX lx cx bv ov lv cv E w hbv hia ya
  by_cases g7 : op = 7
  · subst g7
    exact rone7 ia (v.getD ia 0) b c wd n AX lx cx bv ov lv cv E w hbv hia ya (hu ia).1
  by_cases g22 : op = 22
  · subst g22
    have hk3 : Tm.kidn 22 = 3 := by decide
    obtain ⟨ib, rfl⟩ := Int.eq_ofNat_of_zero_le (k2 (by omega)).1
    obtain ⟨ic, rfl⟩ := Int.eq_ofNat_of_zero_le (k3 (by omega)).1
    have hib : ib < lv := by have := (k2 (by omega)).2; omega
    have hic : ic < lv := by have := (k3 (by omega)).2; omega
    exact rone22 ia ib ic (v.getD ia 0) (v.getD ib 0) (v.getD ic 0) wd n AX lx cx bv ov lv cv E w hbv hia ya hib (hV.at hib).2 hic (hV.at hic).2
  have hb0 : ∃ ib : Nat, b = (ib : Int) ∧ ib < lv := by
    by_cases h1 : Tm.kidn op = 1
    · exact ⟨0, hkb h1, by omega⟩
    · have := k2 (by omega)
      exact ⟨b.toNat, by omega, by omega⟩
  obtain ⟨ib, rfl, hib⟩ := hb0
  have yb := (hV.at hib).2
  obtain ⟨vb, hvb⟩ := Int.eq_ofNat_of_zero_le (hu ib).1
  obtain ⟨va, hva⟩ := Int.eq_ofNat_of_zero_le (hu ia).1
  have hub := (hu ib).2
  have hua := (hu ia).2
  rw [hvb] at yb hub
  rw [hva] at ya hua
  by_cases g23 : op = 23
  · subst g23
    have e0 : Vl.one X v e ⟨23, wd, n, ia, ib, c⟩ = Vl.get X v e.mem (ia + 1) ia vb := by
      show Vl.get X v e.mem (ia + 1) ia (v.getD ib 0) = _
      rw [hvb]
    rw [e0]
    exact rone23 ia ib vb c _ wd n AX lx cx bv ov lv cv E w hbv hia hib yb (Vl.get_by hE.ok.mem _ _ _) (Lib.hid fun W hW => rget_any AX lx cx X (some ⟨bv, ov, none⟩) lv cv v E e ia vb W (hX.below hW) (hV.below hW) (hE.keep (Keep.of_below hW)) (fun t ht => hd t (by omega)) (by omega) (by omega) hu)
  · have e0 : Vl.one X v e ⟨op, wd, n, ia, ib, c⟩ = Wd.app op (X.getD ia Tm.z).w va vb := by
      rw [Vl.one]
      simp only [show ¬ op = 0 by omega, show ¬ op = 1 by omega, show ¬ op = 2 by omega, show ¬ (op = 3 ∨ op = 4 ∨ op = 24) by omega, g6, g7, g22, g23, if_false, Int.toNat_natCast, hva, hvb, Tm.wd]
    rw [e0]
    obtain ⟨bx, ox, hax, hbx, _⟩ := hX.mem (by omega)
    subst hax
    exact roneA op ia ib va vb c _ bx ox wd n _ lx cx bv ov lv cv E w hbv hia ya hib yb (by omega) (by omega) (by omega) rfl hbx (by omega) (hX.at (i := ia) (by omega)).2.2.1
end Go.Proofs.Ytdbcpnpcnkccaaa
namespace Go.Proofs.Ytdbcpnpcnkccaaa
set_option maxRecDepth 100000
open Go.RowKit Go.Maps

theorem step_ap1 {w : World} {ops : Array Oper} {o : Oper} {a : Act} {K : Act → World → Prop} {Q : Exit → Act → World → Prop} {E : Prop} (hgd : o.guard = none) (s x : Operand) (t : TypeId)
    (ho : o.op = .call { callee := .builtin .append, args := #[s, x], argTypes := #[t, t] })
    (base : Nat) (e : TypeId) (i : TypeInfo) (z : Value) (bytes : Nat) (ht : Try.prog.underlying t = some (.slice e)) (hi : Try.prog.info? e = some i) (hz : i.zero = some z)
    (hsize : i.size = 1) (hby : i.bytes = bytes) (hzs : z.cells.size = 1)
    (v : Value) (n : Nat) (xs : List Value) (hs : a.eval s = v) (hown : w.ownsRow base e 1 v n xs)
    (ad : Addr) (m c : Nat) (news : List Value) (hx : a.eval x = .slice (some ad) m c) (hl : news.length = m * 1) (hnews : ∀ j u, news[j]? = some u → w.cell? (ad.add j) = some u) (h1 : ∀ u ∈ news, u.oneCell' = true)
    (h63 : n + m ≤ maxLen) (hbytes : (n + m) * bytes ≤ 140737488355328) (hbase : base ≤ w.heap.size) (N : Nat) (L : List Value) (hN : n + m = N) (hL : xs ++ news = L)
    (h : ∀ A' cap' w', w'.ownsRow base e 1 (.slice A' N cap') N L → Below base w w' → K (a.put o.dst (.slice A' N cap')) w') :
    if Region.wanted o (yielded ops a.tmps) = true then Oper.wp Try.prog o a w K Q else E := by
  subst hN hL
  have hw : Region.wanted o (yielded ops a.tmps) = true := by simp [Region.wanted, hgd]
  rw [if_pos hw]
  obtain ⟨v', w', hrun, h2, h3, _, h5⟩ := run_append_own_at (P := Try.prog) w base t o.type e i z 1 bytes ht hi hz hsize hby hzs (by omega) v n xs hown ad m c news hl hnews h1 h63 hbytes hbase
  have hk : ∀ k, v.ownBlock = some k → base ≤ k := fun k hk => (hown.lt k hk).1
  have hb := (Below.refl base w).grown h3 hbase hk
  have hv : ∃ A' cap', v' = .slice A' (n + m) cap' := by
    rcases h2.2 with ⟨rfl, h0⟩ | ⟨g, cap, cur, rfl, _⟩
    · exact ⟨none, 0, by rw [h0]⟩
    · exact ⟨_, _, rfl⟩
  obtain ⟨A', cap', rfl⟩ := hv
  unfold Oper.wp execOp
  simp only [ho, resolve, invoke, builtin, Sem.run_bind, Sem.run_pure, Result.andThen_ok, List.map_toArray, List.map_cons, List.map_nil, hs, hx, hrun]
  exact h A' cap' w' h2 hb
theorem news1 (w : World) (u : Int) (n : Nat) (hn : w.heap.size = n) : ∀ (j : Nat) v, [Value.int .u64 u][j]? = some v → (w.alloc (.cells #[.int .u64 u] 33)).cell? ((⟨n, 0, none⟩ : Addr).add j) = some v := fun j v hv => by
  have hj : j = 0 := by
    rcases Nat.eq_zero_or_pos j with h | h
    · exact h
    · rw [List.getElem?_eq_none (by simp only [List.length_singleton]; omega)] at hv; cases hv
  subst hj
  simp at hv
  subst hv hn
  exact (Blk.new w #[.int .u64 u] 33).c 0
theorem one1 (u : Int) : ∀ v ∈ [Value.int .u64 u], v.oneCell' = true := fun v hv => by simp at hv; subst hv; rfl

/-- What Values answers of a right list. -/
def RvP (X : List Tm.Nd) (len : Nat) (e : Vl.Env) (w : World) (en : Ending) (w' : World) : Prop := ∃ A cap, en = .returned (.slice A len cap) ∧ UsR w' A len cap (Vl.vals X e len) ∧ Below w.heap.size w w' ∧ ∀ k, oblk A = some k → w.heap.size ≤ k

set_option maxHeartbeats 8000000 in
theorem rvalues_any (AX : Option Addr) (len cap : Nat) (X : List Tm.Nd) (E : EnV) (e : Vl.Env) (w : World) (hX : NdSl w AX len cap X) (hE : EnIn w (fun _ => False) E e) (hl : len ≤ 65536) (hok : Tm.Ok X len) :
    Calls Try.prog 51 #[.slice AX len cap, E.v] w (RvP X len e w) := by
  have hB := Below.box w (.cells #[.slice E.A1 E.n1 E.c1, .int .u64 E.r0, .int .u64 E.r1, .int .u64 E.r2, .int .u64 E.r3, .int .u64 E.r4, .int .u64 E.r5, .int .u64 E.r6, .int .u64 E.r7, .slice E.A2 E.n2 E.c2] 43)
  have HB := Lib.hid hB
  have HX := Lib.hid (hX.below hB)
  have HE := Lib.hid (hE.box)
  have hbv : EnB (w.alloc (.cells #[.slice E.A1 E.n1 E.c1, .int .u64 E.r0, .int .u64 E.r1, .int .u64 E.r2, .int .u64 E.r3, .int .u64 E.r4, .int .u64 E.r5, .int .u64 E.r6, .int .u64 E.r7, .slice E.A2 E.n2 E.c2] 43)) w.heap.size E := Blk.new _ _ _
  have HBV := Lib.hid hbv
  have HS1 := Lib.hid (show (w.alloc (.cells #[.slice E.A1 E.n1 E.c1, .int .u64 E.r0, .int .u64 E.r1, .int .u64 E.r2, .int .u64 E.r3, .int .u64 E.r4, .int .u64 E.r5, .int .u64 E.r6, .int .u64 E.r7, .slice E.A2 E.n2 E.c2] 43)).heap.size = w.heap.size + 1 by simp)
  have HOK := Lib.hid hok
  have HL := Lib.hid (show (len : Int) ≤ 65536 by omega)
  clear hB hX hE hbv hl hok
  rw [env_v]
  go_enter Try.func51, Try.ntmps51
  go_wp2_with fail
  generalize w.alloc (.cells #[.slice E.A1 E.n1 E.c1, .int .u64 E.r0, .int .u64 E.r1, .int .u64 E.r2, .int .u64 E.r3, .int .u64 E.r4, .int .u64 E.r5, .int .u64 E.r6, .int .u64 E.r7, .slice E.A2 E.n2 E.c2] 43) = W1 at *
  go_loopw [5, 6] (fun l t wr => ∃ (k : Nat) (A' : Option Addr) (cap' : Nat), k ≤ len ∧ t = .int .i64 k ∧ l = .slice A' k cap' ∧ AlR W1 wr X e k A' cap') (fun _ t _ => len - (intOf t).toNat)
  case atStart => exact ⟨0, none, 0, Nat.zero_le _, rfl, rfl, ⟨World.ownsRow_nil _ _ _ _, Below.refl _ _⟩⟩
  case round =>
    obtain ⟨k, A', cap', hk, rfl, rfl, hr⟩ := hrel
    by_cases hlt : k < len
    · have hk1 : (k : Int) < len := by omega
      have hk0 : (0 : Int) ≤ k := by omega
      have hl6 := HL.out
      have hXr := HX.out.below hr.bel
      obtain ⟨bb, oo, rfl, hbb, hx⟩ := HX.out.nd.mem (by omega)
      obtain ⟨y0, y1, y2, y3, y4, y5⟩ := hx k hlt
      obtain ⟨f0, f1, f2, f3, f4, f5, f6, f7, f8, f9⟩ := HBV.out.cells
      have HBX := Lib.hid hbb
      have HBW := Lib.hid (show w.heap.size < W1.heap.size by have := HS1.out; omega)
      obtain ⟨o0, o1, hkk, hw, hn⟩ := Tm.flt_zero (show Tm.flt (X.getD k Tm.z) k X = 0 from HOK.out k hlt)
      have hn2 : (X.getD k Tm.z).op = 2 → (X.getD k Tm.z).n < 8 := fun h => by rw [h] at hn; simpa [Tm.nok] using hn
      have hus := UsR.of_own hr.row
      have HC := Lib.hid (fun (n : Nat) => rone_any (some ⟨bb, oo, none⟩) len cap X A' k cap' (Vl.vals X e k) E e (X.getD k Tm.z) (wr.drewN n) (hXr.nd.below (below_drewN (Below.refl _ _) n)) (hus.below (below_drewN (Below.refl _ _) n)) (HE.out.keep (Keep.of_below (hr.bel.trans ((below_drewN (Below.refl _ _) n).mono hr.bel.size)))) (Vl.down_of fun j hj => HOK.out j (by omega)) (by omega) (Vl.vals_u HE.out.ok HX.out.u k) hkk ⟨o0, o1⟩ (HX.out.u k) hn2)
      have HR := Lib.hid hr
      have HLT := Lib.hid hlt
      have HN := Lib.hid (Vl.vals_new X e k)
      clear hx hXr hus hr hw hn hn2 hkk o0 o1
      obtain ⟨u, hu⟩ : ∃ u, Vl.one X (Vl.vals X e k) e (X.getD k Tm.z) = u := ⟨_, rfl⟩
      have hvk := vals_succ X e k
      rw [HN.out, hu] at hvk
      rw [hu] at HC
      have HVK := Lib.hid hvk
      clear hvk hu HN
      generalize hnd : X.getD k Tm.z = nd at *
      clear hnd
      obtain ⟨op, v, n, a, b, c⟩ := nd
      dsimp only [ndv] at y0 y1 y2 y3 y4 y5 HC
      rw [env_v] at HC
      go_wp2_with fail
      refine wp_region_held_drew (S := fun W => Below W1.heap.size W1 W) (by kernel_rfl) HR.out.bel.drew (fun hHeld => ?_)
      refine wpAnyH_take (i := 0) (v := .slice A' k cap') rfl (by kernel_rfl) (by kernel_rfl) (by kernel_rfl) (fun _ _ _ h => h) (Or.inl ⟨by rfl, fun w9 hSw => ?_⟩) hHeld ?_
      · (try dsimp only at hSw)
        go_simp
      try simp only [Act.put, List.setIfInBounds_toArray, List.set_cons_zero, List.set_cons_succ]
      refine wpAnyH_take (i := 1) (v := .slice (some ⟨bb, oo, none⟩) len cap) rfl (by kernel_rfl) (by kernel_rfl) (by kernel_rfl) (fun _ _ _ h => h) (Or.inl ⟨by rfl, fun w9 hSw => ?_⟩) hHeld ?_
      · (try dsimp only at hSw)
        go_simp
      try simp only [Act.put, List.setIfInBounds_toArray, List.set_cons_zero, List.set_cons_succ]
      refine wpAnyH_take (i := 2) (v := .slice A' k cap') rfl (by kernel_rfl) (by kernel_rfl) (by kernel_rfl) (fun _ _ _ h => h) (Or.inl ⟨by rfl, fun w9 hSw => ?_⟩) hHeld ?_
      · (try dsimp only at hSw)
        go_simp
      try simp only [Act.put, List.setIfInBounds_toArray, List.set_cons_zero, List.set_cons_succ]
      refine wpAnyH_take (i := 3) (v := .agg #[.slice E.A1 E.n1 E.c1, .int .u64 E.r0, .int .u64 E.r1, .int .u64 E.r2, .int .u64 E.r3, .int .u64 E.r4, .int .u64 E.r5, .int .u64 E.r6, .int .u64 E.r7, .slice E.A2 E.n2 E.c2]) rfl (by kernel_rfl) (by kernel_rfl) (by kernel_rfl) (fun _ _ _ h => h) (Or.inl ⟨by rfl, fun w9 hSw => ?_⟩) hHeld ?_
      · (try dsimp only at hSw)
        have q0 := cells_below hSw f0 HBW.out
        have q1 := cells_below hSw f1 HBW.out
        have q2 := cells_below hSw f2 HBW.out
        have q3 := cells_below hSw f3 HBW.out
        have q4 := cells_below hSw f4 HBW.out
        have q5 := cells_below hSw f5 HBW.out
        have q6 := cells_below hSw f6 HBW.out
        have q7 := cells_below hSw f7 HBW.out
        have q8 := cells_below hSw f8 HBW.out
        have q9 := cells_below hSw f9 HBW.out
        go_simp
      try simp only [Act.put, List.setIfInBounds_toArray, List.set_cons_zero, List.set_cons_succ]
      refine wpAnyH_take (i := 4) (v := .slice (some ⟨bb, oo, none⟩) len cap) rfl (by kernel_rfl) (by kernel_rfl) (by kernel_rfl) (fun _ _ _ h => h) (Or.inl ⟨by rfl, fun w9 hSw => ?_⟩) hHeld ?_
      · (try dsimp only at hSw)
        go_simp
      try simp only [Act.put, List.setIfInBounds_toArray, List.set_cons_zero, List.set_cons_succ]
      refine wpAnyH_take (i := 5) (v := .int .i64 (k : Int)) rfl (by kernel_rfl) (by kernel_rfl) (by kernel_rfl) (fun _ _ _ h => h) (Or.inl ⟨by rfl, fun w9 hSw => ?_⟩) hHeld ?_
      · (try dsimp only at hSw)
        go_simp
      try simp only [Act.put, List.setIfInBounds_toArray, List.set_cons_zero, List.set_cons_succ]
      refine wpAnyH_take (i := 6) (v := .pointer (some ⟨bb, oo + k * 6, none⟩)) rfl (by kernel_rfl) (by kernel_rfl) (by kernel_rfl) (fun _ _ _ h => h) (Or.inl ⟨by rfl, fun w9 hSw => ?_⟩) hHeld ?_
      · (try dsimp only at hSw)
        go_simp
      try simp only [Act.put, List.setIfInBounds_toArray, List.set_cons_zero, List.set_cons_succ]
      refine wpAnyH_take (i := 7) (v := .agg #[.int .i64 op, .int .i64 v, .int .u64 n, .int .i64 a, .int .i64 b, .int .i64 c]) rfl (by kernel_rfl) (by kernel_rfl) (by kernel_rfl) (fun _ _ _ h => h) (Or.inl ⟨by rfl, fun w9 hSw => ?_⟩) hHeld ?_
      · (try dsimp only at hSw)
        have p0 := cells_below hSw y0 HBX.out
        have p1 := cells_below hSw y1 HBX.out
        have p2 := cells_below hSw y2 HBX.out
        have p3 := cells_below hSw y3 HBX.out
        have p4 := cells_below hSw y4 HBX.out
        have p5 := cells_below hSw y5 HBX.out
        go_simp
      try simp only [Act.put, List.setIfInBounds_toArray, List.set_cons_zero, List.set_cons_succ]
      refine wpAnyH_ready (rs := [8]) (by kernel_rfl) (by simp) ?_
      refine (AllReadyH.cons rfl (fun K hK => ?_) AllReadyH.nil)
      go_simp
      refine Calls.mono (HC.out 1) ?_
      rintro en w2 ⟨rfl, hb2⟩
      have hb3 : Below wr.heap.size wr w2 := (below_drewN (Below.refl _ _) 1).trans hb2
      have hS2 : Below W1.heap.size W1 w2 := HR.out.bel.trans (hb3.mono HR.out.bel.size)
      have hS3 : Below W1.heap.size W1 (w2.alloc (.cells #[.int .u64 u] 33)) := hS2.trans ((Below.box _ _).mono hS2.size)
      have hO3 := World.ownsRow.alloc (own_below HR.out.row hb3) (.cells #[.int .u64 u] 33)
      have HZ3 := Lib.hid (show (Vl.vals X e k).map (Value.int .u64) ++ [.int .u64 u] = (Vl.vals X e (k + 1)).map (Value.int .u64) by rw [HVK.out, List.map_append]; rfl)
      refine hK.out _ _ hS2 (fun hHeld => ?_)
      clear hK K hb2
      try simp only [Act.put, List.setIfInBounds_toArray, List.set_cons_zero, List.set_cons_succ]
      refine wpAnyH_ready (rs := [9]) (by kernel_rfl) (by simp) ?_
      refine (AllReadyH.cons rfl (fun K hK => ?_) AllReadyH.nil)
      go_simp
      refine hK.out _ _ hS3 (fun hHeld => ?_)
      clear hK K
      try simp only [Act.put, List.setIfInBounds_toArray, List.set_cons_zero, List.set_cons_succ]
      refine wpAnyH_ready (rs := [10]) (by kernel_rfl) (by simp) ?_
      refine (AllReadyH.cons rfl (fun K hK => ?_) AllReadyH.nil)
      obtain ⟨i0, hi0, hz0, hz1, hz2⟩ := info_parts info33
      refine step_ap1 (w := w2.alloc (.cells #[.int .u64 u] 33)) rfl (.tmp 13) (.tmp 22) 49 rfl W1.heap.size 33 i0 _ 8 Try.underlying49 hi0 hz0 hz1 hz2 rfl (.slice A' k cap') k ((Vl.vals X e k).map (Value.int .u64)) rfl hO3 ⟨w2.heap.size, 0, none⟩ 1 1 [.int .u64 u] rfl rfl (news1 w2 u _ rfl) (one1 u) (by simp only [maxLen]; omega) (by omega) hS3.size (k + 1) ((Vl.vals X e (k + 1)).map (Value.int .u64)) rfl HZ3.out ?_
      intro A2 cap2 w5 hrow hbl
      have HR5 := Lib.hid (show AlR W1 w5 X e (k + 1) A2 cap2 from ⟨hrow, hS3.trans hbl⟩)
      refine hK.out _ _ (hS3.trans hbl) (fun hHeld => ?_)
      clear hK K hrow hbl hS2 hS3 hO3 hb3
      try simp only [Act.put, List.setIfInBounds_toArray, List.set_cons_zero, List.set_cons_succ]
      refine wpAnyH_take (i := 11) (v := .slice A2 (k + 1) cap2) rfl (by kernel_rfl) (by kernel_rfl) (by kernel_rfl) (fun _ _ _ h => h) (Or.inl ⟨by rfl, fun w9 hSw => ?_⟩) hHeld ?_
      · (try dsimp only at hSw); go_simp
      try simp only [Act.put, List.setIfInBounds_toArray, List.set_cons_zero, List.set_cons_succ]
      refine wpAnyH_done (by kernel_rfl) ?_ _
      clear hHeld
      go_wp2
      go_roundw
      case rel => exact ⟨k + 1, A2, cap2, by omega, by go_num, rfl, HR5.out⟩
      case measure => simp [intOf]; omega
    · have hke : k = len := by omega
      subst hke
      have HR := Lib.hid hr
      clear hr
      go_wp2
      go_ret
      refine ⟨_, _, rfl, UsR.of_own HR.out.row, HB.out.trans (HR.out.bel.mono HB.out.size), fun j hj => ?_⟩
      have := own_ge HR.out.row j (by rw [own_is]; exact hj)
      have := HS1.out
      omega
end Go.Proofs.Ytdbcpnpcnkccaaa
namespace Go.Proofs.Ytdbcpnpcnkccaaa
set_option maxRecDepth 100000
open Go.RowKit Go.Maps

theorem NdSl.pos {w : World} {A : Option Addr} {len cap : Nat} {X : List Tm.Nd} (h : NdSl w A len cap X) (hc : (Tm.chk X).1 = 0) : 0 < len ∧ Tm.Ok X len := by
  obtain ⟨h0, h1⟩ := Tm.chk_ok_iff hc
  rw [h.hlen] at h0 h1
  exact ⟨h0, h1⟩

set_option maxHeartbeats 4000000 in
theorem rof_any (AX : Option Addr) (len cap : Nat) (X : List Tm.Nd) (E : EnV) (e : Vl.Env) (w : World) (hX : NdSl w AX len cap X) (hE : EnIn w (fun _ => False) E e) (hl : len ≤ 65536) :
    Calls Try.prog 25 #[.slice AX len cap, E.v] w fun en w' => en = .returned (.tuple #[.int .u64 (Vl.ofR X e).1, .int .i64 (Vl.ofR X e).2]) ∧ Below w.heap.size w w' := by
  have hB := Below.box w (.cells #[.slice E.A1 E.n1 E.c1, .int .u64 E.r0, .int .u64 E.r1, .int .u64 E.r2, .int .u64 E.r3, .int .u64 E.r4, .int .u64 E.r5, .int .u64 E.r6, .int .u64 E.r7, .slice E.A2 E.n2 E.c2] 43)
  have HB := Lib.hid hB
  have HX := Lib.hid (hX.below hB)
  have HE := Lib.hid hE.box
  have hX2 := hX.below hB
  have HC := Lib.hid (rcheck_any AX len cap X _ hX2.nd hX2.hlen hX2.u hl)
  have hbv : EnB (w.alloc (.cells #[.slice E.A1 E.n1 E.c1, .int .u64 E.r0, .int .u64 E.r1, .int .u64 E.r2, .int .u64 E.r3, .int .u64 E.r4, .int .u64 E.r5, .int .u64 E.r6, .int .u64 E.r7, .slice E.A2 E.n2 E.c2] 43)) w.heap.size E := Blk.new _ _ _
  have HBV := Lib.hid hbv
  have HS1 := Lib.hid (show (w.alloc (.cells #[.slice E.A1 E.n1 E.c1, .int .u64 E.r0, .int .u64 E.r1, .int .u64 E.r2, .int .u64 E.r3, .int .u64 E.r4, .int .u64 E.r5, .int .u64 E.r6, .int .u64 E.r7, .slice E.A2 E.n2 E.c2] 43)).heap.size = w.heap.size + 1 by simp)
  have hlen := hX.hlen
  have HL := Lib.hid hl
  have hl6 : (len : Int) ≤ 65536 := by omega
  by_cases hc : (Tm.chk X).1 = 0
  · obtain ⟨h0, hok⟩ := hX.pos hc
    rw [hc] at HC
    obtain ⟨p, hp⟩ : ∃ p, len - 1 = p := ⟨_, rfl⟩
    have hpl : (len : Int) - 1 = (p : Int) := by omega
    have hp1 : p < len := by omega
    have hp2 : (p : Int) < len := by omega
    have HP := Lib.hid hp1
    have HOK := Lib.hid hok
    by_cases hw : (X.getD p Tm.z).w = 0
    · have er : Vl.ofR X e = (0, 8) := by rw [Vl.ofR, if_neg (by simpa using hc), hlen, hp, if_pos hw]
      rw [er]
      have HW := Lib.hid hw
      clear hB hX hE hX2 hbv hlen hl hok hc er hp h0 hw
      rw [env_v]
      go_enter Try.func25, Try.ntmps25
      go_wp2_with fail
      refine Calls.mono HC.out ?_
      rintro en w2 ⟨rfl, hb2⟩
      obtain ⟨bx, ox, rfl, hbx, hx⟩ := (HX.out.below hb2).nd.mem (by have := HP.out; omega)
      obtain ⟨x0, x1, _⟩ := hx p HP.out
      rw [HW.out] at x1
      have HB2 := Lib.hid hb2
      clear hx hb2 HC
      go_wp2_with fail
      go_ret2
      exact ⟨rfl, HB.out.trans (HB2.out.mono HB.out.size)⟩
    · have er : Vl.ofR X e = ((Vl.vals X e len).getD p 0, 0) := by rw [Vl.ofR, if_neg (by simpa using hc), hlen, hp, if_neg hw]
      rw [er]
      have hwb : ((X.getD p Tm.z).w == 0) = false := beq_eq_false_iff_ne.2 hw
      have HV := Lib.hid (fun W (hW : Below (w.alloc (.cells #[.slice E.A1 E.n1 E.c1, .int .u64 E.r0, .int .u64 E.r1, .int .u64 E.r2, .int .u64 E.r3, .int .u64 E.r4, .int .u64 E.r5, .int .u64 E.r6, .int .u64 E.r7, .slice E.A2 E.n2 E.c2] 43)).heap.size (w.alloc (.cells #[.slice E.A1 E.n1 E.c1, .int .u64 E.r0, .int .u64 E.r1, .int .u64 E.r2, .int .u64 E.r3, .int .u64 E.r4, .int .u64 E.r5, .int .u64 E.r6, .int .u64 E.r7, .slice E.A2 E.n2 E.c2] 43)) W) => rvalues_any AX len cap X E e W (hX2.below hW) (hE.box.keep (Keep.of_below hW)) hl hok)
      clear hB hX hE hX2 hbv hlen hl hok hc er hp h0 hw
      obtain ⟨ww, hww⟩ : ∃ ww, (X.getD p Tm.z).w = ww := ⟨_, rfl⟩
      rw [hww] at hwb
      have HWW := Lib.hid hww
      clear hww
      rw [env_v] at HV ⊢
      go_enter Try.func25, Try.ntmps25
      go_wp2_with fail
      refine Calls.mono HC.out ?_
      rintro en w2 ⟨rfl, hb2⟩
      obtain ⟨bx, ox, rfl, hbx, hx⟩ := (HX.out.below hb2).nd.mem (by have := HP.out; omega)
      obtain ⟨x0, x1, _⟩ := hx p HP.out
      rw [HWW.out] at x1
      have hev : EnB w2 w.heap.size E := (hb2.block w.heap.size (by have := HS1.out; omega)).trans HBV.out
      obtain ⟨e0, e1, e2, e3, e4, e5, e6, e7, e8, e9⟩ := hev.cells
      have HB2 := Lib.hid hb2
      clear hx hb2 HC hev
      go_wp2_with fail
      refine Calls.mono (HV.out w2 HB2.out) ?_
      rintro en w3 ⟨A, capv, rfl, hus, hb3, _⟩
      obtain ⟨bv, ov, rfl, hbv, hy⟩ := hus.mem (by have := HP.out; omega)
      have y0 := hy p HP.out
      have HB3 := Lib.hid hb3
      clear hy hb3 hus x0 x1 e0 e1 e2 e3 e4 e5 e6 e7 e8 e9
      go_wp2_with fail
      go_ret2
      exact ⟨rfl, (HB.out.trans (HB2.out.mono HB.out.size)).trans (HB3.out.mono (HB.out.trans (HB2.out.mono HB.out.size)).size)⟩
  · have er : Vl.ofR X e = (0, (Tm.chk X).1) := by rw [Vl.ofR, if_pos hc]
    rw [er]
    have hcb : ((Tm.chk X).1 != 0) = true := by simpa using hc
    clear hB hX hE hX2 hbv hlen hl hc er
    rw [env_v]
    go_enter Try.func25, Try.ntmps25
    go_wp2_with fail
    refine Calls.mono HC.out ?_
    rintro en w2 ⟨rfl, hb2⟩
    have HB2 := Lib.hid hb2
    clear hb2 HC
    go_wp2_with fail
    go_ret2
    exact ⟨rfl, HB.out.trans (HB2.out.mono HB.out.size)⟩

set_option maxHeartbeats 4000000 in
theorem rall_any (AX : Option Addr) (len cap : Nat) (X : List Tm.Nd) (E : EnV) (e : Vl.Env) (w : World) (hX : NdSl w AX len cap X) (hE : EnIn w (fun _ => False) E e) (hl : len ≤ 65536) :
    Calls Try.prog 27 #[.slice AX len cap, E.v] w (AlP X e w) := by
  have hB := Below.box w (.cells #[.slice E.A1 E.n1 E.c1, .int .u64 E.r0, .int .u64 E.r1, .int .u64 E.r2, .int .u64 E.r3, .int .u64 E.r4, .int .u64 E.r5, .int .u64 E.r6, .int .u64 E.r7, .slice E.A2 E.n2 E.c2] 43)
  have HB := Lib.hid hB
  have hX2 := hX.below hB
  have HC := Lib.hid (rcheck_any AX len cap X _ hX2.nd hX2.hlen hX2.u hl)
  have hbv : EnB (w.alloc (.cells #[.slice E.A1 E.n1 E.c1, .int .u64 E.r0, .int .u64 E.r1, .int .u64 E.r2, .int .u64 E.r3, .int .u64 E.r4, .int .u64 E.r5, .int .u64 E.r6, .int .u64 E.r7, .slice E.A2 E.n2 E.c2] 43)) w.heap.size E := Blk.new _ _ _
  have HBV := Lib.hid hbv
  have HS1 := Lib.hid (show (w.alloc (.cells #[.slice E.A1 E.n1 E.c1, .int .u64 E.r0, .int .u64 E.r1, .int .u64 E.r2, .int .u64 E.r3, .int .u64 E.r4, .int .u64 E.r5, .int .u64 E.r6, .int .u64 E.r7, .slice E.A2 E.n2 E.c2] 43)).heap.size = w.heap.size + 1 by simp)
  by_cases hc : (Tm.chk X).1 = 0
  · have ha : Vl.alR X e = Vl.vals X e len := by rw [Vl.alR, if_pos hc, hX.hlen]
    have HP : AlP X e w = fun en w' => ∃ A n cap, en = .returned (.tuple #[.slice A n cap, .int .i64 0]) ∧ UsR w' A n cap (Vl.vals X e len) ∧ Below w.heap.size w w' := by funext en w'; rw [AlP, ha, hc]
    rw [HP]
    rw [hc] at HC
    have HV := Lib.hid (fun W (hW : Below (w.alloc (.cells #[.slice E.A1 E.n1 E.c1, .int .u64 E.r0, .int .u64 E.r1, .int .u64 E.r2, .int .u64 E.r3, .int .u64 E.r4, .int .u64 E.r5, .int .u64 E.r6, .int .u64 E.r7, .slice E.A2 E.n2 E.c2] 43)).heap.size (w.alloc (.cells #[.slice E.A1 E.n1 E.c1, .int .u64 E.r0, .int .u64 E.r1, .int .u64 E.r2, .int .u64 E.r3, .int .u64 E.r4, .int .u64 E.r5, .int .u64 E.r6, .int .u64 E.r7, .slice E.A2 E.n2 E.c2] 43)) W) => rvalues_any AX len cap X E e W (hX2.below hW) (hE.box.keep (Keep.of_below hW)) hl (hX.pos hc).2)
    clear hB hX hE hX2 hbv hl hc ha HP
    rw [env_v] at HV ⊢
    go_enter Try.func27, Try.ntmps27
    go_wp2_with fail
    refine Calls.mono HC.out ?_
    rintro en w2 ⟨rfl, hb2⟩
    have hev : EnB w2 w.heap.size E := (hb2.block w.heap.size (by have := HS1.out; omega)).trans HBV.out
    obtain ⟨e0, e1, e2, e3, e4, e5, e6, e7, e8, e9⟩ := hev.cells
    have HB2 := Lib.hid hb2
    clear hb2 HC hev
    go_wp2_with fail
    refine Calls.mono (HV.out w2 HB2.out) ?_
    rintro en w3 ⟨A, capv, rfl, hus, hb3, _⟩
    have HUS := Lib.hid hus
    have HB3 := Lib.hid hb3
    clear hb3 hus e0 e1 e2 e3 e4 e5 e6 e7 e8 e9
    go_wp2_with fail
    go_ret2
    exact ⟨_, _, _, rfl, HUS.out, (HB.out.trans (HB2.out.mono HB.out.size)).trans (HB3.out.mono (HB.out.trans (HB2.out.mono HB.out.size)).size)⟩
  · have ha : Vl.alR X e = [] := if_neg hc
    have HP : AlP X e w = fun en w' => ∃ A n cap, en = .returned (.tuple #[.slice A n cap, .int .i64 (Tm.chk X).1]) ∧ UsR w' A n cap [] ∧ Below w.heap.size w w' := by funext en w'; rw [AlP, ha]
    rw [HP]
    have hcb : ((Tm.chk X).1 != 0) = true := by simpa using hc
    clear hB hX hE hX2 hbv hl hc ha HP
    rw [env_v]
    go_enter Try.func27, Try.ntmps27
    go_wp2_with fail
    refine Calls.mono HC.out ?_
    rintro en w2 ⟨rfl, hb2⟩
    have HB2 := Lib.hid hb2
    clear hb2 HC
    go_wp2_with fail
    go_ret2
    exact ⟨none, 0, 0, rfl, ⟨rfl, Nat.le_refl _, Nat.zero_le _, fun h => absurd h (by omega)⟩, HB.out.trans (HB2.out.mono HB.out.size)⟩

set_option maxHeartbeats 4000000 in
theorem small_any (AX : Option Addr) (len cap : Nat) (X : List Tm.Nd) (n : Int) (w : World) (hX : NdSl w AX len cap X) (hl : (len : Int) ≤ n → len ≤ 65536) :
    Calls Try.prog 31 #[.slice AX len cap, .int .i64 n] w fun en w' => en = .returned (.bool (decide ((len : Int) ≤ n) && decide ((Tm.chk X).1 = 0))) ∧ Below w.heap.size w w' := by
  by_cases hn : n < (len : Int)
  · have e1 : decide ((len : Int) ≤ n) = false := decide_eq_false (by omega)
    rw [e1, Bool.false_and]
    clear hX hl e1
    go_enter Try.func31, Try.ntmps31
    go_wp2_with fail
    go_ret
    exact ⟨rfl, Below.refl _ _⟩
  · have hl := hl (by omega)
    have e1 : decide ((len : Int) ≤ n) = true := decide_eq_true (by omega)
    rw [e1, Bool.true_and]
    have HC := Lib.hid (rcheck_any AX len cap X w hX.nd hX.hlen hX.u hl)
    have hcd : ((Tm.chk X).1 == 0) = decide ((Tm.chk X).1 = 0) := by rw [Bool.eq_iff_iff]; simp
    have HCD := Lib.hid hcd
    clear hX hl e1 hcd
    go_enter Try.func31, Try.ntmps31
    go_wp2_with fail
    refine Calls.mono HC.out ?_
    rintro en w2 ⟨rfl, hb2⟩
    have HB2 := Lib.hid hb2
    clear hb2 HC
    have hcd := HCD.out
    go_wp2_with fail
    go_ret
    exact ⟨ret_bool (by first | rfl | exact hcd), HB2.out⟩

set_option maxHeartbeats 4000000 in
theorem words_same (A : Option Addr) (n c : Nat) (B : Option Addr) (m d : Nat) (l : List Int) (w : World) (hA : UsR w A n c l) (hB : UsR w B m d l) (hn : n ≤ 1000000) :
    Calls Try.prog 30 #[.slice A n c, .slice B m d] w fun en w' => en = .returned (.bool true) ∧ Below w.heap.size w w' := by
  obtain rfl : m = n := by have := hA.hlen; have := hB.hlen; omega
  have HA := Lib.hid hA
  have HB := Lib.hid hB
  have hn' : (m : Int) ≤ 1000000 := by omega
  clear hA hB hn
  go_enter Try.func30, Try.ntmps30
  go_wp2_with fail
  go_loopw [5] (fun t wr => ∃ k : Nat, k ≤ m ∧ t = .int .i64 k ∧ ∃ q, wr = w.drewN q) (fun t _ => m - (intOf t).toNat)
  case atStart => exact ⟨0, Nat.zero_le _, rfl, 0, rfl⟩
  case round =>
    obtain ⟨k, hk, rfl, q, rfl⟩ := hrel
    by_cases hlt : k < m
    · have hk1 : (k : Int) < m := by omega
      have hk0 : (0 : Int) ≤ k := by omega
      obtain ⟨b1, o1, rfl, hb1, hx⟩ := HA.out.mem (by omega)
      obtain ⟨b2, o2, rfl, hb2, hy⟩ := HB.out.mem (by omega)
      have x0 := hx k hlt
      have y0 := hy k hlt
      clear hx hy
      go_wp2_with fail
      go_quiet (fail)
      go_wp2_with fail
      go_roundw
      case rel => exact ⟨k + 1, by omega, by go_num, _, rfl⟩
      case measure => simp [intOf]; omega
    · have hke : k = m := by omega
      subst hke
      go_wp2_with fail
      go_ret
      exact ⟨rfl, below_drewN (Below.refl _ _) q⟩
set_option maxHeartbeats 4000000 in
theorem rbyte_any (AX : Option Addr) (len cap : Nat) (X : List Tm.Nd) (E : EnV) (e : Vl.Env) (kk : Nat) (w : World) (hX : NdSl w AX len cap X) (hE : EnIn w (fun _ => False) E e) (hl : len ≤ 65536) :
    Calls Try.prog 29 #[.slice AX len cap, E.v, .int .u64 kk] w fun en w' => en = .returned (.tuple #[.int .u8 (Vl.byR X e kk).1, .int .i64 (Vl.byR X e kk).2]) ∧ Below w.heap.size w w' := by
  have hB := Below.box w (.cells #[.slice E.A1 E.n1 E.c1, .int .u64 E.r0, .int .u64 E.r1, .int .u64 E.r2, .int .u64 E.r3, .int .u64 E.r4, .int .u64 E.r5, .int .u64 E.r6, .int .u64 E.r7, .slice E.A2 E.n2 E.c2] 43)
  have HB := Lib.hid hB
  have HX := Lib.hid (hX.below hB)
  have HE := Lib.hid hE.box
  have hX2 := hX.below hB
  have HC := Lib.hid (rcheck_any AX len cap X _ hX2.nd hX2.hlen hX2.u hl)
  have hbv : EnB (w.alloc (.cells #[.slice E.A1 E.n1 E.c1, .int .u64 E.r0, .int .u64 E.r1, .int .u64 E.r2, .int .u64 E.r3, .int .u64 E.r4, .int .u64 E.r5, .int .u64 E.r6, .int .u64 E.r7, .slice E.A2 E.n2 E.c2] 43)) w.heap.size E := Blk.new _ _ _
  have HBV := Lib.hid hbv
  have HS1 := Lib.hid (show (w.alloc (.cells #[.slice E.A1 E.n1 E.c1, .int .u64 E.r0, .int .u64 E.r1, .int .u64 E.r2, .int .u64 E.r3, .int .u64 E.r4, .int .u64 E.r5, .int .u64 E.r6, .int .u64 E.r7, .slice E.A2 E.n2 E.c2] 43)).heap.size = w.heap.size + 1 by simp)
  have hlen := hX.hlen
  have HL := Lib.hid hl
  have hl6 : (len : Int) ≤ 65536 := by omega
  by_cases hc : (Tm.chk X).1 = 0
  · obtain ⟨h0, hok⟩ := hX.pos hc
    rw [hc] at HC
    obtain ⟨p, hp⟩ : ∃ p, len - 1 = p := ⟨_, rfl⟩
    have hpl : (len : Int) - 1 = (p : Int) := by omega
    have hp1 : p < len := by omega
    have hp2 : (p : Int) < len := by omega
    have HP := Lib.hid hp1
    have HOK := Lib.hid hok
    by_cases hw : (X.getD p Tm.z).w = 0
    · have er : Vl.byR X e kk = (Vl.get X (Vl.vals X e len) e.mem (p + 1) p kk, 0) := by
        rw [Vl.byR, if_neg (by simpa using hc), hlen, hp, if_neg (by simpa using hw), show p + 1 = len by omega]
      rw [er]
      have hwb : ((X.getD p Tm.z).w != 0) = false := by rw [hw]; rfl
      have HV := Lib.hid (fun W (hW : Below (w.alloc (.cells #[.slice E.A1 E.n1 E.c1, .int .u64 E.r0, .int .u64 E.r1, .int .u64 E.r2, .int .u64 E.r3, .int .u64 E.r4, .int .u64 E.r5, .int .u64 E.r6, .int .u64 E.r7, .slice E.A2 E.n2 E.c2] 43)).heap.size (w.alloc (.cells #[.slice E.A1 E.n1 E.c1, .int .u64 E.r0, .int .u64 E.r1, .int .u64 E.r2, .int .u64 E.r3, .int .u64 E.r4, .int .u64 E.r5, .int .u64 E.r6, .int .u64 E.r7, .slice E.A2 E.n2 E.c2] 43)) W) => rvalues_any AX len cap X E e W (hX2.below hW) (hE.box.keep (Keep.of_below hW)) hl hok)
      have HG := Lib.hid (fun W (hW : Below (w.alloc (.cells #[.slice E.A1 E.n1 E.c1, .int .u64 E.r0, .int .u64 E.r1, .int .u64 E.r2, .int .u64 E.r3, .int .u64 E.r4, .int .u64 E.r5, .int .u64 E.r6, .int .u64 E.r7, .slice E.A2 E.n2 E.c2] 43)).heap.size (w.alloc (.cells #[.slice E.A1 E.n1 E.c1, .int .u64 E.r0, .int .u64 E.r1, .int .u64 E.r2, .int .u64 E.r3, .int .u64 E.r4, .int .u64 E.r5, .int .u64 E.r6, .int .u64 E.r7, .slice E.A2 E.n2 E.c2] 43)) W) A capv (hu : UsR W A len capv (Vl.vals X e len)) => rget_any AX len cap X A len capv (Vl.vals X e len) E e p kk W (hX2.below hW).nd hu (hE.box.keep (Keep.of_below hW)) (Vl.down_of fun j hj => hok j (by omega)) hp1 (by omega) (Vl.vals_u hE.ok hX2.u len))
      clear hB hX hE hX2 hbv hlen hl hok hc er hp h0
      generalize Vl.get X (Vl.vals X e len) e.mem (p + 1) p kk = G at *
      have HW := Lib.hid hw
      clear hw
      rw [env_v] at HV HG ⊢
      go_enter Try.func29, Try.ntmps29
      go_wp2_with fail
      refine Calls.mono HC.out ?_
      rintro en w2 ⟨rfl, hb2⟩
      obtain ⟨bx, ox, rfl, hbx, hx⟩ := (HX.out.below hb2).nd.mem (by have := HP.out; omega)
      obtain ⟨x0, x1, _⟩ := hx p HP.out
      rw [HW.out] at x1
      have HB2 := Lib.hid hb2
      clear hx hb2 HC
      go_wp2_with fail
      clear x0 x1
      have hev : EnB w2 w.heap.size E := (HB2.out.block w.heap.size (by have := HS1.out; omega)).trans HBV.out
      obtain ⟨f0, f1, f2, f3, f4, f5, f6, f7, f8, f9⟩ := hev.cells
      have HBW := Lib.hid hev.lt
      have hwp : IntKind.i64.wrap (p : Int) = (p : Int) := by rw [IntKind.wrap_i64]; omega
      refine wp_region_held_drew (S := fun W => Below w2.heap.size w2 W) (by kernel_rfl) (Below.refl _ _).drew (fun hHeld => ?_)
      refine wpAnyH_take (i := 0) (v := .slice (some ⟨bx, ox, none⟩) len cap) rfl (by kernel_rfl) (by kernel_rfl) (by kernel_rfl) (fun _ _ _ h => h) (Or.inl ⟨by rfl, fun w9 hSw => ?_⟩) hHeld ?_
      · (try dsimp only at hSw)
        go_simp
      try simp only [Act.put, List.setIfInBounds_toArray, List.set_cons_zero, List.set_cons_succ]
      refine wpAnyH_take (i := 1) (v := .slice (some ⟨bx, ox, none⟩) len cap) rfl (by kernel_rfl) (by kernel_rfl) (by kernel_rfl) (fun _ _ _ h => h) (Or.inl ⟨by rfl, fun w9 hSw => ?_⟩) hHeld ?_
      · (try dsimp only at hSw)
        go_simp
      try simp only [Act.put, List.setIfInBounds_toArray, List.set_cons_zero, List.set_cons_succ]
      refine wpAnyH_take (i := 2) (v := .agg #[.slice E.A1 E.n1 E.c1, .int .u64 E.r0, .int .u64 E.r1, .int .u64 E.r2, .int .u64 E.r3, .int .u64 E.r4, .int .u64 E.r5, .int .u64 E.r6, .int .u64 E.r7, .slice E.A2 E.n2 E.c2]) rfl (by kernel_rfl) (by kernel_rfl) (by kernel_rfl) (fun _ _ _ h => h) (Or.inl ⟨by rfl, fun w9 hSw => ?_⟩) hHeld ?_
      · (try dsimp only at hSw)
        have q0 := cells_below hSw f0 HBW.out
        have q1 := cells_below hSw f1 HBW.out
        have q2 := cells_below hSw f2 HBW.out
        have q3 := cells_below hSw f3 HBW.out
        have q4 := cells_below hSw f4 HBW.out
        have q5 := cells_below hSw f5 HBW.out
        have q6 := cells_below hSw f6 HBW.out
        have q7 := cells_below hSw f7 HBW.out
        have q8 := cells_below hSw f8 HBW.out
        have q9 := cells_below hSw f9 HBW.out
        go_simp
      try simp only [Act.put, List.setIfInBounds_toArray, List.set_cons_zero, List.set_cons_succ]
      refine wpAnyH_take (i := 4) (v := .agg #[.slice E.A1 E.n1 E.c1, .int .u64 E.r0, .int .u64 E.r1, .int .u64 E.r2, .int .u64 E.r3, .int .u64 E.r4, .int .u64 E.r5, .int .u64 E.r6, .int .u64 E.r7, .slice E.A2 E.n2 E.c2]) rfl (by kernel_rfl) (by kernel_rfl) (by kernel_rfl) (fun _ _ _ h => h) (Or.inl ⟨by rfl, fun w9 hSw => ?_⟩) hHeld ?_
      · (try dsimp only at hSw)
        have q0 := cells_below hSw f0 HBW.out
        have q1 := cells_below hSw f1 HBW.out
        have q2 := cells_below hSw f2 HBW.out
        have q3 := cells_below hSw f3 HBW.out
        have q4 := cells_below hSw f4 HBW.out
        have q5 := cells_below hSw f5 HBW.out
        have q6 := cells_below hSw f6 HBW.out
        have q7 := cells_below hSw f7 HBW.out
        have q8 := cells_below hSw f8 HBW.out
        have q9 := cells_below hSw f9 HBW.out
        go_simp
      try simp only [Act.put, List.setIfInBounds_toArray, List.set_cons_zero, List.set_cons_succ]
      refine wpAnyH_take (i := 5) (v := .slice (some ⟨bx, ox, none⟩) len cap) rfl (by kernel_rfl) (by kernel_rfl) (by kernel_rfl) (fun _ _ _ h => h) (Or.inl ⟨by rfl, fun w9 hSw => ?_⟩) hHeld ?_
      · (try dsimp only at hSw)
        go_simp
      try simp only [Act.put, List.setIfInBounds_toArray, List.set_cons_zero, List.set_cons_succ]
      refine wpAnyH_take (i := 6) (v := .int .i64 (len : Int)) rfl (by kernel_rfl) (by kernel_rfl) (by kernel_rfl) (fun _ _ _ h => h) (Or.inl ⟨by rfl, fun w9 hSw => ?_⟩) hHeld ?_
      · (try dsimp only at hSw)
        go_simp
      try simp only [Act.put, List.setIfInBounds_toArray, List.set_cons_zero, List.set_cons_succ]
      refine wpAnyH_take (i := 7) (v := .int .i64 (p : Int)) rfl (by kernel_rfl) (by kernel_rfl) (by kernel_rfl) (fun _ _ _ h => h) (Or.inl ⟨by rfl, fun w9 hSw => ?_⟩) hHeld ?_
      · (try dsimp only at hSw)
        go_simp
      try simp only [Act.put, List.setIfInBounds_toArray, List.set_cons_zero, List.set_cons_succ]
      refine wpAnyH_take (i := 8) (v := .int .u64 (kk : Int)) rfl (by kernel_rfl) (by kernel_rfl) (by kernel_rfl) (fun _ _ _ h => h) (Or.inl ⟨by rfl, fun w9 hSw => ?_⟩) hHeld ?_
      · (try dsimp only at hSw)
        go_simp
      try simp only [Act.put, List.setIfInBounds_toArray, List.set_cons_zero, List.set_cons_succ]
      refine wpAnyH_ready (rs := [3]) (by kernel_rfl) (by simp) ?_
      refine (AllReadyH.cons rfl (fun K hK => ?_) AllReadyH.nil)
      go_simp
      refine Calls.mono (HV.out _ (HB2.out.trans ((below_drewN (Below.refl _ _) 1).mono HB2.out.size))) ?_
      rintro en w3 ⟨A, capv, rfl, hus, hb3, _⟩
      have hb3' : Below w2.heap.size w2 w3 := (below_drewN (Below.refl _ _) 1).trans hb3
      refine hK.out _ _ hb3' (fun hHeld => ?_)
      clear hK K
      try simp only [Act.put, List.setIfInBounds_toArray, List.set_cons_zero, List.set_cons_succ]
      refine wpAnyH_ready (rs := [9]) (by kernel_rfl) (by simp) ?_
      refine (AllReadyH.cons rfl (fun K hK => ?_) AllReadyH.nil)
      go_simp
      refine Calls.mono (HG.out w3 (HB2.out.trans (hb3'.mono HB2.out.size)) A capv hus) ?_
      rintro en w4 ⟨rfl, hb4⟩
      have hb4' : Below w2.heap.size w2 w4 := hb3'.trans (hb4.mono hb3'.size)
      refine hK.out _ _ hb4' (fun hHeld => ?_)
      clear hK K
      try simp only [Act.put, List.setIfInBounds_toArray, List.set_cons_zero, List.set_cons_succ]
      refine wpAnyH_take (i := 10) (v := .int .u8 G) rfl (by kernel_rfl) (by kernel_rfl) (by kernel_rfl) (fun _ _ _ h => h) (Or.inl ⟨by rfl, fun w9 hSw => ?_⟩) hHeld ?_
      · (try dsimp only at hSw)
        go_simp
      try simp only [Act.put, List.setIfInBounds_toArray, List.set_cons_zero, List.set_cons_succ]
      refine wpAnyH_take (i := 11) (v := .int .i64 0) rfl (by kernel_rfl) (by kernel_rfl) (by kernel_rfl) (fun _ _ _ h => h) (Or.inl ⟨by rfl, fun w9 hSw => ?_⟩) hHeld ?_
      · (try dsimp only at hSw)
        go_simp
      try simp only [Act.put, List.setIfInBounds_toArray, List.set_cons_zero, List.set_cons_succ]
      refine wpAnyH_done (by kernel_rfl) ?_ _
      clear hHeld
      have HB4 := Lib.hid hb4'
      clear hb3 hb4 hb3' hb4' hus
      simp only [List.getElem_toArray, List.getElem_cons_succ, List.getElem_cons_zero, Act.put, List.setIfInBounds_toArray, List.set_cons_zero, List.set_cons_succ]
      go_wp2
      go_ret2
      exact ⟨rfl, (HB.out.trans (HB2.out.mono HB.out.size)).trans (HB4.out.mono (HB.out.trans (HB2.out.mono HB.out.size)).size)⟩
    · have er : Vl.byR X e kk = (0, 8) := by rw [Vl.byR, if_neg (by simpa using hc), hlen, hp, if_pos (by simpa using hw)]
      rw [er]
      have hwb : ((X.getD p Tm.z).w != 0) = true := by simpa using hw
      obtain ⟨ww, hww⟩ : ∃ ww, (X.getD p Tm.z).w = ww := ⟨_, rfl⟩
      rw [hww] at hwb
      have HWW := Lib.hid hww
      clear hww
      clear hB hX hE hX2 hbv hlen hl hok hc er hp h0 hw
      rw [env_v]
      go_enter Try.func29, Try.ntmps29
      go_wp2_with fail
      refine Calls.mono HC.out ?_
      rintro en w2 ⟨rfl, hb2⟩
      obtain ⟨bx, ox, rfl, hbx, hx⟩ := (HX.out.below hb2).nd.mem (by have := HP.out; omega)
      obtain ⟨x0, x1, _⟩ := hx p HP.out
      rw [HWW.out] at x1
      have HB2 := Lib.hid hb2
      clear hx hb2 HC
      go_wp2_with fail
      go_ret2
      exact ⟨rfl, HB.out.trans (HB2.out.mono HB.out.size)⟩
  · have er : Vl.byR X e kk = (0, (Tm.chk X).1) := by rw [Vl.byR, if_pos hc]
    rw [er]
    have hcb : ((Tm.chk X).1 != 0) = true := by simpa using hc
    clear hB hX hE hX2 hbv hlen hl hc er
    rw [env_v]
    go_enter Try.func29, Try.ntmps29
    go_wp2_with fail
    refine Calls.mono HC.out ?_
    rintro en w2 ⟨rfl, hb2⟩
    have HB2 := Lib.hid hb2
    clear hb2 HC
    go_wp2_with fail
    go_ret2
    exact ⟨rfl, HB.out.trans (HB2.out.mono HB.out.size)⟩

end Go.Proofs.Ytdbcpnpcnkccaaa
