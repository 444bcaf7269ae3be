/-
  The walk of the law on unlike instructions and unlike bytes.
-/
import Derived.Test.YtdifbjpcanfgoaaDoorA0
namespace Go.Proofs.YtdifbjpcanfgoaaDoor
open Go.RowKit

set_option maxHeartbeats 2000000 in
theorem apart_no (op a b c m op' a' b' c' m' : Int) (A : Option Addr) (len cap : Nat) (xs : List Int) (i y : Int) (w : World) (ho : Ops w) (hx : BySl w A len cap xs) (m0 : 0 ≤ m) (m1 : m < 18446744073709551616) (n0 : 0 ≤ m') (n1 : m' < 18446744073709551616) (y0 : 0 ≤ y) (y1 : y ≤ 255) (h1 : (Cd.er (Cd.bad op a b c m) == 0) = false) :
    Calls Tryd.prog 6 #[.agg #[.int .i64 op, .int .i64 a, .int .i64 b, .int .i64 c, .int .u64 m], .agg #[.int .i64 op', .int .i64 a', .int .i64 b', .int .i64 c', .int .u64 m'], .slice A len cap, .int .i64 i, .int .u8 y] w fun e w' => e = .returned (.bool true) ∧ Below w.heap.size w w' := by
  obtain ⟨i0, hi0, hz0, hz1, hz2⟩ := info_parts u8_info
  have hp := ho.pos
  have bl0 : Below w.heap.size w ((w.alloc (.cells #[.int .i64 op, .int .i64 a, .int .i64 b, .int .i64 c, .int .u64 m] 24)).alloc (.cells #[.int .i64 op', .int .i64 a', .int .i64 b', .int .i64 c', .int .u64 m'] 24)) := ((Below.refl _ _).alloc (Nat.le_refl _) _).alloc (by simp) _
  have HO := Lib.hid (ho.below bl0 hp)
  have HX := Lib.hid (hx.below bl0)
  have HB0 := Lib.hid bl0
  have HM := Lib.hid m1
  have HN := Lib.hid n1
  clear ho hx bl0 m1 n1
  have hE := eql_ins op a b c m op' a' b' c' m'
  go_enter Tryd.func6, Tryd.ntmps6
  go_wp2_with fail
  refine (awake_any _ HO.out).mono ?_; rintro e v1 ⟨rfl, k1⟩
  have c0 : v1.cell? ⟨w.heap.size, 0, none⟩ = some (.int .i64 op) := cells_below k1 (by simp [go_sem]) (by simp; try omega)
  have c1 : v1.cell? ⟨w.heap.size, 1, none⟩ = some (.int .i64 a) := cells_below k1 (by simp [go_sem]) (by simp; try omega)
  have c2 : v1.cell? ⟨w.heap.size, 2, none⟩ = some (.int .i64 b) := cells_below k1 (by simp [go_sem]) (by simp; try omega)
  have c3 : v1.cell? ⟨w.heap.size, 3, none⟩ = some (.int .i64 c) := cells_below k1 (by simp [go_sem]) (by simp; try omega)
  have c4 : v1.cell? ⟨w.heap.size, 4, none⟩ = some (.int .u64 m) := cells_below k1 (by simp [go_sem]) (by simp; try omega)
  have HO1 := Lib.hid (HO.out.below k1 HO.out.pos)
  have K1 := Lib.hid k1
  clear k1
  go_wp2_with fail
  refine (put_uni _ _ _ _ _ _ HO1.out m0 HM.out).mono ?_; rintro e v2 ⟨X, rfl, k2, hX⟩
  have k12 := K1.out.trans (k2.mono K1.out.size)
  have d0 : v2.cell? ⟨w.heap.size + 1, 0, none⟩ = some (.int .i64 op') := cells_below k12 (by simp [go_sem]) (by simp; try omega)
  have d1 : v2.cell? ⟨w.heap.size + 1, 1, none⟩ = some (.int .i64 a') := cells_below k12 (by simp [go_sem]) (by simp; try omega)
  have d2 : v2.cell? ⟨w.heap.size + 1, 2, none⟩ = some (.int .i64 b') := cells_below k12 (by simp [go_sem]) (by simp; try omega)
  have d3 : v2.cell? ⟨w.heap.size + 1, 3, none⟩ = some (.int .i64 c') := cells_below k12 (by simp [go_sem]) (by simp; try omega)
  have d4 : v2.cell? ⟨w.heap.size + 1, 4, none⟩ = some (.int .u64 m') := cells_below k12 (by simp [go_sem]) (by simp; try omega)
  have HO2 := Lib.hid (HO.out.below k12 HO.out.pos)
  have K2 := Lib.hid k12
  have QX := Lib.hid hX
  clear k2 k12 hX c0 c1 c2 c3 c4
  go_wp2_with fail
  refine (put_uni _ _ _ _ _ _ HO2.out n0 HN.out).mono ?_; rintro e v3 ⟨Y, rfl, k3, hY⟩
  have k13 := K2.out.trans (k3.mono K2.out.size)
  have c0 : v3.cell? ⟨w.heap.size, 0, none⟩ = some (.int .i64 op) := cells_below k13 (by simp [go_sem]) (by simp; try omega)
  have c1 : v3.cell? ⟨w.heap.size, 1, none⟩ = some (.int .i64 a) := cells_below k13 (by simp [go_sem]) (by simp; try omega)
  have c2 : v3.cell? ⟨w.heap.size, 2, none⟩ = some (.int .i64 b) := cells_below k13 (by simp [go_sem]) (by simp; try omega)
  have c3 : v3.cell? ⟨w.heap.size, 3, none⟩ = some (.int .i64 c) := cells_below k13 (by simp [go_sem]) (by simp; try omega)
  have c4 : v3.cell? ⟨w.heap.size, 4, none⟩ = some (.int .u64 m) := cells_below k13 (by simp [go_sem]) (by simp; try omega)
  have f0 : v3.cell? ⟨w.heap.size + 1, 0, none⟩ = some (.int .i64 op') := cells_below k13 (by simp [go_sem]) (by simp; try omega)
  have f1 : v3.cell? ⟨w.heap.size + 1, 1, none⟩ = some (.int .i64 a') := cells_below k13 (by simp [go_sem]) (by simp; try omega)
  have f2 : v3.cell? ⟨w.heap.size + 1, 2, none⟩ = some (.int .i64 b') := cells_below k13 (by simp [go_sem]) (by simp; try omega)
  have f3 : v3.cell? ⟨w.heap.size + 1, 3, none⟩ = some (.int .i64 c') := cells_below k13 (by simp [go_sem]) (by simp; try omega)
  have f4 : v3.cell? ⟨w.heap.size + 1, 4, none⟩ = some (.int .u64 m') := cells_below k13 (by simp [go_sem]) (by simp; try omega)
  have qx := QX.out v3 k3
  have qy := hY v3 (Below.refl _ _)
  have HO3 := Lib.hid (HO.out.below k13 HO.out.pos)
  have K3 := Lib.hid k13
  clear k3 k13 hY d0 d1 d2 d3 d4
  go_wp2
  go_quiet (fail)
  have K4 := Lib.hid (below_drewN K3.out nq)
  clear qx qy hE c0 c1 c2 c3 c4 f0 f1 f2 f3 f4
  have bwf : ∀ v : World, Below ((w.alloc (.cells #[.int .i64 op, .int .i64 a, .int .i64 b, .int .i64 c, .int .u64 m] 24)).alloc (.cells #[.int .i64 op', .int .i64 a', .int .i64 b', .int .i64 c', .int .u64 m'] 24)).heap.size ((w.alloc (.cells #[.int .i64 op, .int .i64 a, .int .i64 b, .int .i64 c, .int .u64 m] 24)).alloc (.cells #[.int .i64 op', .int .i64 a', .int .i64 b', .int .i64 c', .int .u64 m'] 24)) v → Below w.heap.size w v := fun v h => HB0.out.trans (h.mono (by simp; omega))
  have HW := Lib.hid bwf
  clear bwf
  by_cases t1 : len < 12
  · go_wp2
    go_ret
    exact ⟨rfl, HW.out _ K4.out⟩
  by_cases t2 : 1000 < len
  · go_wp2
    go_ret
    exact ⟨rfl, HW.out _ K4.out⟩
  by_cases t3 : i < 0
  · go_wp2
    go_ret
    exact ⟨rfl, HW.out _ K4.out⟩
  by_cases t4 : 11 < i
  · go_wp2
    go_ret
    exact ⟨rfl, HW.out _ K4.out⟩
  by_cases t5 : y = 0
  · subst t5
    go_wp2
    go_ret
    exact ⟨rfl, HW.out _ K4.out⟩
  obtain ⟨n, rfl⟩ : ∃ n : Nat, i = n := ⟨i.toNat, by omega⟩
  have hn12 : n < 12 := by omega
  have w1 : 12 ≤ len := by omega
  have w2 : len ≤ 1000 := by omega
  have w3 : (n : Int) < (len : Int) := by omega
  have hxl := HX.out.hlen
  have hln : 12 ≤ xs.length := by omega
  have HLX := Lib.hid hxl
  have hyb : (y == 0) = false := by simpa using t5
  obtain ⟨z0, z1, z2, z3, z4, e1, k1, hr1, hf1⟩ := gotL_form xs
  have bz := HX.out.isB n
  obtain ⟨zn, hzn⟩ : ∃ zn, xs.getD n 0 = zn := ⟨_, rfl⟩
  rw [hzn] at bz
  have uu := xor_turn zn y bz.1 bz.2 y0 y1 t5
  obtain ⟨q, hq⟩ : ∃ q, bits BinOp.xor IntKind.u8 zn y = q := ⟨_, rfl⟩
  rw [hq] at uu
  obtain ⟨u0, u1, u2⟩ := uu
  have HC := Lib.hid (isB_set (n := n) HX.out.isB u0 u1)
  have HTA := Lib.hid (turn_apart xs n q hln HX.out.isB hn12 (by rw [hzn]; exact u2) HC.out)
  obtain ⟨p0, p1, p2, p3, p4, e2, k2, hr2, hf2⟩ := gotL_form (xs.set n q)
  have HZ := Lib.hid hzn
  have HR1 := Lib.hid hr1
  have HR2 := Lib.hid hr2
  have HF1 := Lib.hid hf1
  have HF2 := Lib.hid hf2
  clear hxl hr1 hr2 hf1 hf2 u0 u1 u2 bz hzn t1 t2 t3 t4 t5
  go_wp2_with fail
  have hx4 := HX.out.below K4.out
  obtain ⟨gb, ob, rfl, hgb, hyb4⟩ := hx4.mem (by omega)
  refine (get_list _ _ _ _ xs _ (HO.out.below K4.out HO.out.pos) w1 hx4.hle hx4.hcap hln hyb4 hx4.isB).mono ?_; rintro e v4 ⟨rfl, k5⟩
  rw [HR1.out]
  have K5 := Lib.hid (K4.out.trans (k5.mono K4.out.size))
  have HX5 := Lib.hid (HX.out.below K5.out)
  clear k5 hx4 hyb4
  have hal : Below v4.heap.size v4 (v4.alloc (.cells #[.int .i64 z0, .int .i64 z1, .int .i64 z2, .int .i64 z3, .int .u64 z4] 24)) := (Below.refl _ _).alloc (Nat.le_refl _) _
  have HA4 := Lib.hid hal
  clear hal
  go_wp2_with (at_builtin
               refine wpList_ap (w := (v4.alloc (.cells #[.int .i64 z0, .int .i64 z1, .int .i64 z2, .int .i64 z3, .int .u64 z4] 24)).alloc (.cells #[] 5)) rfl (.tmp 77) (.tmp 78) _ rfl (v4.heap.size + 1) 5 i0 _ 1 Tryd.underlying25 hi0 hz0 hz1 hz2 rfl (.slice (some ⟨v4.heap.size + 1, 0, none⟩) 0 0) 0 [] rfl
                 (by have := own_new (v4.alloc (.cells #[.int .i64 z0, .int .i64 z1, .int .i64 z2, .int .i64 z3, .int .u64 z4] 24)); simpa using this) (some ⟨gb, ob, none⟩) len cap (xs.map (Value.int .u8)) rfl ((HX5.out.below (HA4.out.alloc (by simp) _)).sl) (fun h => by cases h) (one_cell xs) (by simp only [maxLen]; omega) (by omega) (by simp) len (xs.map (Value.int .u8)) (by omega) rfl ?_
               intro A5 cap5 v5 hc51 hc52 hown5 hsl5 hb5
               obtain ⟨g5, rfl, hg51, hg52, hfz5, hy5⟩ := own_row hown5 (by omega)
               have cn5 : v5.cell? ⟨g5, n, none⟩ = some (.int .u8 zn) := (by have := hy5.at0 n (by omega); rwa [Nat.zero_add, HZ.out] at this)
               have fn5 := hfz5 n
               have HB5 := Lib.hid hb5
               have HY5 := Lib.hid hy5
               clear hown5 hsl5 hb5 hfz5 hy5)
  have al4 : Below v4.heap.size v4 v5 := (HA4.out.alloc (by simp) _).trans (HB5.out.mono (by omega))
  have kv5 := K5.out.trans (al4.mono K5.out.size)
  have hK5s := K5.out.size
  have kv6 := kv5.setCell (p := ⟨g5, n, none⟩) (show _ ≤ g5 by omega) (.int .u8 q)
  have hne5 : (⟨g5, n, none⟩ : Addr).block ≠ v4.heap.size := by simp; omega
  have s0 : v5.cell? ⟨v4.heap.size, 0, none⟩ = some (.int .i64 z0) := cells_below HB5.out (by simp [go_sem]) (by omega)
  have s1 : v5.cell? ⟨v4.heap.size, 1, none⟩ = some (.int .i64 z1) := cells_below HB5.out (by simp [go_sem]) (by omega)
  have s2 : v5.cell? ⟨v4.heap.size, 2, none⟩ = some (.int .i64 z2) := cells_below HB5.out (by simp [go_sem]) (by omega)
  have s3 : v5.cell? ⟨v4.heap.size, 3, none⟩ = some (.int .i64 z3) := cells_below HB5.out (by simp [go_sem]) (by omega)
  have s4 : v5.cell? ⟨v4.heap.size, 4, none⟩ = some (.int .u64 z4) := cells_below HB5.out (by simp [go_sem]) (by omega)
  refine (get_list _ _ _ _ (xs.set n q) _ (HO.out.below kv6 HO.out.pos) w1 hc51 hc52 (by simpa using hln) (byts_turn HY5.out (by omega)) HC.out).mono ?_; rintro e v6 ⟨rfl, k6⟩
  rw [HR2.out]
  have hz6 : v4.heap.size < v6.heap.size := by have := k6.size; simp [World.setCell] at this; omega
  have r0 : v6.cell? ⟨v4.heap.size, 0, none⟩ = some (.int .i64 z0) := cells_below k6 ((World.cell?_setCell_other _ _ _ _ (fun e => hne5 (by rw [e]))).trans s0) (by simp [World.setCell]; omega)
  have r1 : v6.cell? ⟨v4.heap.size, 1, none⟩ = some (.int .i64 z1) := cells_below k6 ((World.cell?_setCell_other _ _ _ _ (fun e => hne5 (by rw [e]))).trans s1) (by simp [World.setCell]; omega)
  have r2 : v6.cell? ⟨v4.heap.size, 2, none⟩ = some (.int .i64 z2) := cells_below k6 ((World.cell?_setCell_other _ _ _ _ (fun e => hne5 (by rw [e]))).trans s2) (by simp [World.setCell]; omega)
  have r3 : v6.cell? ⟨v4.heap.size, 3, none⟩ = some (.int .i64 z3) := cells_below k6 ((World.cell?_setCell_other _ _ _ _ (fun e => hne5 (by rw [e]))).trans s3) (by simp [World.setCell]; omega)
  have r4 : v6.cell? ⟨v4.heap.size, 4, none⟩ = some (.int .u64 z4) := cells_below k6 ((World.cell?_setCell_other _ _ _ _ (fun e => hne5 (by rw [e]))).trans s4) (by simp [World.setCell]; omega)
  have K6 := Lib.hid (kv6.trans (k6.mono (by simp [World.setCell]; have := kv5.size; simp at this; omega)))
  clear k6 kv6 kv5 al4 cn5 fn5 hq hK5s hne5 s0 s1 s2 s3 s4
  rcases HF1.out with g1 | ⟨rfl, l0, l1, l2, l3, l4⟩
  · go_wp2
    go_ret
    exact ⟨rfl, (HW.out _ K6.out).alloc (HW.out _ K6.out).size _⟩
  · rcases HF2.out with g2 | ⟨rfl, o0, o1, o2, o3, o4⟩
    · go_wp2
      go_ret
      exact ⟨rfl, (HW.out _ K6.out).alloc (HW.out _ K6.out).size _⟩
    · have hne := neq_ins z0 z1 z2 z3 z4 p0 p1 p2 p3 p4
      rw [show Cd.same z0 z1 z2 z3 z4 p0 p1 p2 p3 p4 = false by rw [l0, l1, l2, l3, l4, o0, o1, o2, o3, o4]; exact HTA.out] at hne
      clear l0 l1 l2 l3 l4 o0 o1 o2 o3 o4
      go_wp2
      go_ret
      exact ⟨rfl, (HW.out _ K6.out).alloc (HW.out _ K6.out).size _⟩

set_option maxHeartbeats 2000000 in
theorem apart_half (op a b c m op' a' b' c' m' : Int) (A : Option Addr) (len cap : Nat) (xs : List Int) (i y : Int) (w : World) (ho : Ops w) (hx : BySl w A len cap xs) (m0 : 0 ≤ m) (m1 : m < 18446744073709551616) (n0 : 0 ≤ m') (n1 : m' < 18446744073709551616) (y0 : 0 ≤ y) (y1 : y ≤ 255) (h1 : Cd.er (Cd.bad op a b c m) = 0) (h2 : (Cd.er (Cd.bad op' a' b' c' m') == 0) = false) :
    Calls Tryd.prog 6 #[.agg #[.int .i64 op, .int .i64 a, .int .i64 b, .int .i64 c, .int .u64 m], .agg #[.int .i64 op', .int .i64 a', .int .i64 b', .int .i64 c', .int .u64 m'], .slice A len cap, .int .i64 i, .int .u8 y] w fun e w' => e = .returned (.bool true) ∧ Below w.heap.size w w' := by
  obtain ⟨i0, hi0, hz0, hz1, hz2⟩ := info_parts u8_info
  have hp := ho.pos
  have bl0 : Below w.heap.size w ((w.alloc (.cells #[.int .i64 op, .int .i64 a, .int .i64 b, .int .i64 c, .int .u64 m] 24)).alloc (.cells #[.int .i64 op', .int .i64 a', .int .i64 b', .int .i64 c', .int .u64 m'] 24)) := ((Below.refl _ _).alloc (Nat.le_refl _) _).alloc (by simp) _
  have HO := Lib.hid (ho.below bl0 hp)
  have HX := Lib.hid (hx.below bl0)
  have HB0 := Lib.hid bl0
  have HM := Lib.hid m1
  have HN := Lib.hid n1
  clear ho hx bl0 m1 n1
  have hE := eql_ins op a b c m op' a' b' c' m'
  go_enter Tryd.func6, Tryd.ntmps6
  go_wp2_with fail
  refine (awake_any _ HO.out).mono ?_; rintro e v1 ⟨rfl, k1⟩
  have c0 : v1.cell? ⟨w.heap.size, 0, none⟩ = some (.int .i64 op) := cells_below k1 (by simp [go_sem]) (by simp; try omega)
  have c1 : v1.cell? ⟨w.heap.size, 1, none⟩ = some (.int .i64 a) := cells_below k1 (by simp [go_sem]) (by simp; try omega)
  have c2 : v1.cell? ⟨w.heap.size, 2, none⟩ = some (.int .i64 b) := cells_below k1 (by simp [go_sem]) (by simp; try omega)
  have c3 : v1.cell? ⟨w.heap.size, 3, none⟩ = some (.int .i64 c) := cells_below k1 (by simp [go_sem]) (by simp; try omega)
  have c4 : v1.cell? ⟨w.heap.size, 4, none⟩ = some (.int .u64 m) := cells_below k1 (by simp [go_sem]) (by simp; try omega)
  have HO1 := Lib.hid (HO.out.below k1 HO.out.pos)
  have K1 := Lib.hid k1
  clear k1
  go_wp2_with fail
  refine (put_uni _ _ _ _ _ _ HO1.out m0 HM.out).mono ?_; rintro e v2 ⟨X, rfl, k2, hX⟩
  have k12 := K1.out.trans (k2.mono K1.out.size)
  have d0 : v2.cell? ⟨w.heap.size + 1, 0, none⟩ = some (.int .i64 op') := cells_below k12 (by simp [go_sem]) (by simp; try omega)
  have d1 : v2.cell? ⟨w.heap.size + 1, 1, none⟩ = some (.int .i64 a') := cells_below k12 (by simp [go_sem]) (by simp; try omega)
  have d2 : v2.cell? ⟨w.heap.size + 1, 2, none⟩ = some (.int .i64 b') := cells_below k12 (by simp [go_sem]) (by simp; try omega)
  have d3 : v2.cell? ⟨w.heap.size + 1, 3, none⟩ = some (.int .i64 c') := cells_below k12 (by simp [go_sem]) (by simp; try omega)
  have d4 : v2.cell? ⟨w.heap.size + 1, 4, none⟩ = some (.int .u64 m') := cells_below k12 (by simp [go_sem]) (by simp; try omega)
  have HO2 := Lib.hid (HO.out.below k12 HO.out.pos)
  have K2 := Lib.hid k12
  have QX := Lib.hid hX
  clear k2 k12 hX c0 c1 c2 c3 c4
  go_wp2_with fail
  refine (put_uni _ _ _ _ _ _ HO2.out n0 HN.out).mono ?_; rintro e v3 ⟨Y, rfl, k3, hY⟩
  have k13 := K2.out.trans (k3.mono K2.out.size)
  have c0 : v3.cell? ⟨w.heap.size, 0, none⟩ = some (.int .i64 op) := cells_below k13 (by simp [go_sem]) (by simp; try omega)
  have c1 : v3.cell? ⟨w.heap.size, 1, none⟩ = some (.int .i64 a) := cells_below k13 (by simp [go_sem]) (by simp; try omega)
  have c2 : v3.cell? ⟨w.heap.size, 2, none⟩ = some (.int .i64 b) := cells_below k13 (by simp [go_sem]) (by simp; try omega)
  have c3 : v3.cell? ⟨w.heap.size, 3, none⟩ = some (.int .i64 c) := cells_below k13 (by simp [go_sem]) (by simp; try omega)
  have c4 : v3.cell? ⟨w.heap.size, 4, none⟩ = some (.int .u64 m) := cells_below k13 (by simp [go_sem]) (by simp; try omega)
  have f0 : v3.cell? ⟨w.heap.size + 1, 0, none⟩ = some (.int .i64 op') := cells_below k13 (by simp [go_sem]) (by simp; try omega)
  have f1 : v3.cell? ⟨w.heap.size + 1, 1, none⟩ = some (.int .i64 a') := cells_below k13 (by simp [go_sem]) (by simp; try omega)
  have f2 : v3.cell? ⟨w.heap.size + 1, 2, none⟩ = some (.int .i64 b') := cells_below k13 (by simp [go_sem]) (by simp; try omega)
  have f3 : v3.cell? ⟨w.heap.size + 1, 3, none⟩ = some (.int .i64 c') := cells_below k13 (by simp [go_sem]) (by simp; try omega)
  have f4 : v3.cell? ⟨w.heap.size + 1, 4, none⟩ = some (.int .u64 m') := cells_below k13 (by simp [go_sem]) (by simp; try omega)
  have qx := QX.out v3 k3
  have qy := hY v3 (Below.refl _ _)
  have HO3 := Lib.hid (HO.out.below k13 HO.out.pos)
  have K3 := Lib.hid k13
  clear k3 k13 hY d0 d1 d2 d3 d4
  go_wp2
  go_quiet (fail)
  have K4 := Lib.hid (below_drewN K3.out nq)
  clear qx qy hE c0 c1 c2 c3 c4 f0 f1 f2 f3 f4
  have bwf : ∀ v : World, Below ((w.alloc (.cells #[.int .i64 op, .int .i64 a, .int .i64 b, .int .i64 c, .int .u64 m] 24)).alloc (.cells #[.int .i64 op', .int .i64 a', .int .i64 b', .int .i64 c', .int .u64 m'] 24)).heap.size ((w.alloc (.cells #[.int .i64 op, .int .i64 a, .int .i64 b, .int .i64 c, .int .u64 m] 24)).alloc (.cells #[.int .i64 op', .int .i64 a', .int .i64 b', .int .i64 c', .int .u64 m'] 24)) v → Below w.heap.size w v := fun v h => HB0.out.trans (h.mono (by simp; omega))
  have HW := Lib.hid bwf
  clear bwf
  by_cases t1 : len < 12
  · go_wp2
    go_ret
    exact ⟨rfl, HW.out _ K4.out⟩
  by_cases t2 : 1000 < len
  · go_wp2
    go_ret
    exact ⟨rfl, HW.out _ K4.out⟩
  by_cases t3 : i < 0
  · go_wp2
    go_ret
    exact ⟨rfl, HW.out _ K4.out⟩
  by_cases t4 : 11 < i
  · go_wp2
    go_ret
    exact ⟨rfl, HW.out _ K4.out⟩
  by_cases t5 : y = 0
  · subst t5
    go_wp2
    go_ret
    exact ⟨rfl, HW.out _ K4.out⟩
  obtain ⟨n, rfl⟩ : ∃ n : Nat, i = n := ⟨i.toNat, by omega⟩
  have hn12 : n < 12 := by omega
  have w1 : 12 ≤ len := by omega
  have w2 : len ≤ 1000 := by omega
  have w3 : (n : Int) < (len : Int) := by omega
  have hxl := HX.out.hlen
  have hln : 12 ≤ xs.length := by omega
  have HLX := Lib.hid hxl
  have hyb : (y == 0) = false := by simpa using t5
  obtain ⟨z0, z1, z2, z3, z4, e1, k1, hr1, hf1⟩ := gotL_form xs
  have bz := HX.out.isB n
  obtain ⟨zn, hzn⟩ : ∃ zn, xs.getD n 0 = zn := ⟨_, rfl⟩
  rw [hzn] at bz
  have uu := xor_turn zn y bz.1 bz.2 y0 y1 t5
  obtain ⟨q, hq⟩ : ∃ q, bits BinOp.xor IntKind.u8 zn y = q := ⟨_, rfl⟩
  rw [hq] at uu
  obtain ⟨u0, u1, u2⟩ := uu
  have HC := Lib.hid (isB_set (n := n) HX.out.isB u0 u1)
  have HTA := Lib.hid (turn_apart xs n q hln HX.out.isB hn12 (by rw [hzn]; exact u2) HC.out)
  obtain ⟨p0, p1, p2, p3, p4, e2, k2, hr2, hf2⟩ := gotL_form (xs.set n q)
  have HZ := Lib.hid hzn
  have HR1 := Lib.hid hr1
  have HR2 := Lib.hid hr2
  have HF1 := Lib.hid hf1
  have HF2 := Lib.hid hf2
  clear hxl hr1 hr2 hf1 hf2 u0 u1 u2 bz hzn t1 t2 t3 t4 t5
  go_wp2_with fail
  have hx4 := HX.out.below K4.out
  obtain ⟨gb, ob, rfl, hgb, hyb4⟩ := hx4.mem (by omega)
  refine (get_list _ _ _ _ xs _ (HO.out.below K4.out HO.out.pos) w1 hx4.hle hx4.hcap hln hyb4 hx4.isB).mono ?_; rintro e v4 ⟨rfl, k5⟩
  rw [HR1.out]
  have K5 := Lib.hid (K4.out.trans (k5.mono K4.out.size))
  have HX5 := Lib.hid (HX.out.below K5.out)
  clear k5 hx4 hyb4
  have hal : Below v4.heap.size v4 (v4.alloc (.cells #[.int .i64 z0, .int .i64 z1, .int .i64 z2, .int .i64 z3, .int .u64 z4] 24)) := (Below.refl _ _).alloc (Nat.le_refl _) _
  have HA4 := Lib.hid hal
  clear hal
  go_wp2_with (at_builtin
               refine wpList_ap (w := (v4.alloc (.cells #[.int .i64 z0, .int .i64 z1, .int .i64 z2, .int .i64 z3, .int .u64 z4] 24)).alloc (.cells #[] 5)) rfl (.tmp 77) (.tmp 78) _ rfl (v4.heap.size + 1) 5 i0 _ 1 Tryd.underlying25 hi0 hz0 hz1 hz2 rfl (.slice (some ⟨v4.heap.size + 1, 0, none⟩) 0 0) 0 [] rfl
                 (by have := own_new (v4.alloc (.cells #[.int .i64 z0, .int .i64 z1, .int .i64 z2, .int .i64 z3, .int .u64 z4] 24)); simpa using this) (some ⟨gb, ob, none⟩) len cap (xs.map (Value.int .u8)) rfl ((HX5.out.below (HA4.out.alloc (by simp) _)).sl) (fun h => by cases h) (one_cell xs) (by simp only [maxLen]; omega) (by omega) (by simp) len (xs.map (Value.int .u8)) (by omega) rfl ?_
               intro A5 cap5 v5 hc51 hc52 hown5 hsl5 hb5
               obtain ⟨g5, rfl, hg51, hg52, hfz5, hy5⟩ := own_row hown5 (by omega)
               have cn5 : v5.cell? ⟨g5, n, none⟩ = some (.int .u8 zn) := (by have := hy5.at0 n (by omega); rwa [Nat.zero_add, HZ.out] at this)
               have fn5 := hfz5 n
               have HB5 := Lib.hid hb5
               have HY5 := Lib.hid hy5
               clear hown5 hsl5 hb5 hfz5 hy5)
  have al4 : Below v4.heap.size v4 v5 := (HA4.out.alloc (by simp) _).trans (HB5.out.mono (by omega))
  have kv5 := K5.out.trans (al4.mono K5.out.size)
  have hK5s := K5.out.size
  have kv6 := kv5.setCell (p := ⟨g5, n, none⟩) (show _ ≤ g5 by omega) (.int .u8 q)
  have hne5 : (⟨g5, n, none⟩ : Addr).block ≠ v4.heap.size := by simp; omega
  have s0 : v5.cell? ⟨v4.heap.size, 0, none⟩ = some (.int .i64 z0) := cells_below HB5.out (by simp [go_sem]) (by omega)
  have s1 : v5.cell? ⟨v4.heap.size, 1, none⟩ = some (.int .i64 z1) := cells_below HB5.out (by simp [go_sem]) (by omega)
  have s2 : v5.cell? ⟨v4.heap.size, 2, none⟩ = some (.int .i64 z2) := cells_below HB5.out (by simp [go_sem]) (by omega)
  have s3 : v5.cell? ⟨v4.heap.size, 3, none⟩ = some (.int .i64 z3) := cells_below HB5.out (by simp [go_sem]) (by omega)
  have s4 : v5.cell? ⟨v4.heap.size, 4, none⟩ = some (.int .u64 z4) := cells_below HB5.out (by simp [go_sem]) (by omega)
  refine (get_list _ _ _ _ (xs.set n q) _ (HO.out.below kv6 HO.out.pos) w1 hc51 hc52 (by simpa using hln) (byts_turn HY5.out (by omega)) HC.out).mono ?_; rintro e v6 ⟨rfl, k6⟩
  rw [HR2.out]
  have hz6 : v4.heap.size < v6.heap.size := by have := k6.size; simp [World.setCell] at this; omega
  have r0 : v6.cell? ⟨v4.heap.size, 0, none⟩ = some (.int .i64 z0) := cells_below k6 ((World.cell?_setCell_other _ _ _ _ (fun e => hne5 (by rw [e]))).trans s0) (by simp [World.setCell]; omega)
  have r1 : v6.cell? ⟨v4.heap.size, 1, none⟩ = some (.int .i64 z1) := cells_below k6 ((World.cell?_setCell_other _ _ _ _ (fun e => hne5 (by rw [e]))).trans s1) (by simp [World.setCell]; omega)
  have r2 : v6.cell? ⟨v4.heap.size, 2, none⟩ = some (.int .i64 z2) := cells_below k6 ((World.cell?_setCell_other _ _ _ _ (fun e => hne5 (by rw [e]))).trans s2) (by simp [World.setCell]; omega)
  have r3 : v6.cell? ⟨v4.heap.size, 3, none⟩ = some (.int .i64 z3) := cells_below k6 ((World.cell?_setCell_other _ _ _ _ (fun e => hne5 (by rw [e]))).trans s3) (by simp [World.setCell]; omega)
  have r4 : v6.cell? ⟨v4.heap.size, 4, none⟩ = some (.int .u64 z4) := cells_below k6 ((World.cell?_setCell_other _ _ _ _ (fun e => hne5 (by rw [e]))).trans s4) (by simp [World.setCell]; omega)
  have K6 := Lib.hid (kv6.trans (k6.mono (by simp [World.setCell]; have := kv5.size; simp at this; omega)))
  clear k6 kv6 kv5 al4 cn5 fn5 hq hK5s hne5 s0 s1 s2 s3 s4
  rcases HF1.out with g1 | ⟨rfl, l0, l1, l2, l3, l4⟩
  · go_wp2
    go_ret
    exact ⟨rfl, (HW.out _ K6.out).alloc (HW.out _ K6.out).size _⟩
  · rcases HF2.out with g2 | ⟨rfl, o0, o1, o2, o3, o4⟩
    · go_wp2
      go_ret
      exact ⟨rfl, (HW.out _ K6.out).alloc (HW.out _ K6.out).size _⟩
    · have hne := neq_ins z0 z1 z2 z3 z4 p0 p1 p2 p3 p4
      rw [show Cd.same z0 z1 z2 z3 z4 p0 p1 p2 p3 p4 = false by rw [l0, l1, l2, l3, l4, o0, o1, o2, o3, o4]; exact HTA.out] at hne
      clear l0 l1 l2 l3 l4 o0 o1 o2 o3 o4
      go_wp2
      go_ret
      exact ⟨rfl, (HW.out _ K6.out).alloc (HW.out _ K6.out).size _⟩

set_option maxHeartbeats 2000000 in
theorem apart_both (op a b c m op' a' b' c' m' : Int) (A : Option Addr) (len cap : Nat) (xs : List Int) (i y : Int) (w : World) (ho : Ops w) (hx : BySl w A len cap xs) (m0 : 0 ≤ m) (m1 : m < 18446744073709551616) (n0 : 0 ≤ m') (n1 : m' < 18446744073709551616) (y0 : 0 ≤ y) (y1 : y ≤ 255) (h1 : Cd.er (Cd.bad op a b c m) = 0) (h2 : Cd.er (Cd.bad op' a' b' c' m') = 0) (hS : ((Cd.st op a b c m).toList == (Cd.st op' a' b' c' m').toList) = Cd.same op a b c m op' a' b' c' m') :
    Calls Tryd.prog 6 #[.agg #[.int .i64 op, .int .i64 a, .int .i64 b, .int .i64 c, .int .u64 m], .agg #[.int .i64 op', .int .i64 a', .int .i64 b', .int .i64 c', .int .u64 m'], .slice A len cap, .int .i64 i, .int .u8 y] w fun e w' => e = .returned (.bool true) ∧ Below w.heap.size w w' := by
  obtain ⟨i0, hi0, hz0, hz1, hz2⟩ := info_parts u8_info
  have hp := ho.pos
  have bl0 : Below w.heap.size w ((w.alloc (.cells #[.int .i64 op, .int .i64 a, .int .i64 b, .int .i64 c, .int .u64 m] 24)).alloc (.cells #[.int .i64 op', .int .i64 a', .int .i64 b', .int .i64 c', .int .u64 m'] 24)) := ((Below.refl _ _).alloc (Nat.le_refl _) _).alloc (by simp) _
  have HO := Lib.hid (ho.below bl0 hp)
  have HX := Lib.hid (hx.below bl0)
  have HB0 := Lib.hid bl0
  have HM := Lib.hid m1
  have HN := Lib.hid n1
  clear ho hx bl0 m1 n1
  have hE := eql_ins op a b c m op' a' b' c' m'
  go_enter Tryd.func6, Tryd.ntmps6
  go_wp2_with fail
  refine (awake_any _ HO.out).mono ?_; rintro e v1 ⟨rfl, k1⟩
  have c0 : v1.cell? ⟨w.heap.size, 0, none⟩ = some (.int .i64 op) := cells_below k1 (by simp [go_sem]) (by simp; try omega)
  have c1 : v1.cell? ⟨w.heap.size, 1, none⟩ = some (.int .i64 a) := cells_below k1 (by simp [go_sem]) (by simp; try omega)
  have c2 : v1.cell? ⟨w.heap.size, 2, none⟩ = some (.int .i64 b) := cells_below k1 (by simp [go_sem]) (by simp; try omega)
  have c3 : v1.cell? ⟨w.heap.size, 3, none⟩ = some (.int .i64 c) := cells_below k1 (by simp [go_sem]) (by simp; try omega)
  have c4 : v1.cell? ⟨w.heap.size, 4, none⟩ = some (.int .u64 m) := cells_below k1 (by simp [go_sem]) (by simp; try omega)
  have HO1 := Lib.hid (HO.out.below k1 HO.out.pos)
  have K1 := Lib.hid k1
  clear k1
  go_wp2_with fail
  refine (put_uni _ _ _ _ _ _ HO1.out m0 HM.out).mono ?_; rintro e v2 ⟨X, rfl, k2, hX⟩
  have k12 := K1.out.trans (k2.mono K1.out.size)
  have d0 : v2.cell? ⟨w.heap.size + 1, 0, none⟩ = some (.int .i64 op') := cells_below k12 (by simp [go_sem]) (by simp; try omega)
  have d1 : v2.cell? ⟨w.heap.size + 1, 1, none⟩ = some (.int .i64 a') := cells_below k12 (by simp [go_sem]) (by simp; try omega)
  have d2 : v2.cell? ⟨w.heap.size + 1, 2, none⟩ = some (.int .i64 b') := cells_below k12 (by simp [go_sem]) (by simp; try omega)
  have d3 : v2.cell? ⟨w.heap.size + 1, 3, none⟩ = some (.int .i64 c') := cells_below k12 (by simp [go_sem]) (by simp; try omega)
  have d4 : v2.cell? ⟨w.heap.size + 1, 4, none⟩ = some (.int .u64 m') := cells_below k12 (by simp [go_sem]) (by simp; try omega)
  have HO2 := Lib.hid (HO.out.below k12 HO.out.pos)
  have K2 := Lib.hid k12
  have QX := Lib.hid hX
  clear k2 k12 hX c0 c1 c2 c3 c4
  go_wp2_with fail
  refine (put_uni _ _ _ _ _ _ HO2.out n0 HN.out).mono ?_; rintro e v3 ⟨Y, rfl, k3, hY⟩
  have k13 := K2.out.trans (k3.mono K2.out.size)
  have c0 : v3.cell? ⟨w.heap.size, 0, none⟩ = some (.int .i64 op) := cells_below k13 (by simp [go_sem]) (by simp; try omega)
  have c1 : v3.cell? ⟨w.heap.size, 1, none⟩ = some (.int .i64 a) := cells_below k13 (by simp [go_sem]) (by simp; try omega)
  have c2 : v3.cell? ⟨w.heap.size, 2, none⟩ = some (.int .i64 b) := cells_below k13 (by simp [go_sem]) (by simp; try omega)
  have c3 : v3.cell? ⟨w.heap.size, 3, none⟩ = some (.int .i64 c) := cells_below k13 (by simp [go_sem]) (by simp; try omega)
  have c4 : v3.cell? ⟨w.heap.size, 4, none⟩ = some (.int .u64 m) := cells_below k13 (by simp [go_sem]) (by simp; try omega)
  have f0 : v3.cell? ⟨w.heap.size + 1, 0, none⟩ = some (.int .i64 op') := cells_below k13 (by simp [go_sem]) (by simp; try omega)
  have f1 : v3.cell? ⟨w.heap.size + 1, 1, none⟩ = some (.int .i64 a') := cells_below k13 (by simp [go_sem]) (by simp; try omega)
  have f2 : v3.cell? ⟨w.heap.size + 1, 2, none⟩ = some (.int .i64 b') := cells_below k13 (by simp [go_sem]) (by simp; try omega)
  have f3 : v3.cell? ⟨w.heap.size + 1, 3, none⟩ = some (.int .i64 c') := cells_below k13 (by simp [go_sem]) (by simp; try omega)
  have f4 : v3.cell? ⟨w.heap.size + 1, 4, none⟩ = some (.int .u64 m') := cells_below k13 (by simp [go_sem]) (by simp; try omega)
  have qx := QX.out v3 k3
  have qy := hY v3 (Below.refl _ _)
  have HO3 := Lib.hid (HO.out.below k13 HO.out.pos)
  have K3 := Lib.hid k13
  clear k3 k13 hY d0 d1 d2 d3 d4
  go_wp2
  go_quiet (fail)
  have K4 := Lib.hid (below_drewN K3.out nq)
  clear qx qy hE c0 c1 c2 c3 c4 f0 f1 f2 f3 f4
  have bwf : ∀ v : World, Below ((w.alloc (.cells #[.int .i64 op, .int .i64 a, .int .i64 b, .int .i64 c, .int .u64 m] 24)).alloc (.cells #[.int .i64 op', .int .i64 a', .int .i64 b', .int .i64 c', .int .u64 m'] 24)).heap.size ((w.alloc (.cells #[.int .i64 op, .int .i64 a, .int .i64 b, .int .i64 c, .int .u64 m] 24)).alloc (.cells #[.int .i64 op', .int .i64 a', .int .i64 b', .int .i64 c', .int .u64 m'] 24)) v → Below w.heap.size w v := fun v h => HB0.out.trans (h.mono (by simp; omega))
  have HW := Lib.hid bwf
  clear bwf
  by_cases t1 : len < 12
  · go_wp2
    go_ret
    exact ⟨rfl, HW.out _ K4.out⟩
  by_cases t2 : 1000 < len
  · go_wp2
    go_ret
    exact ⟨rfl, HW.out _ K4.out⟩
  by_cases t3 : i < 0
  · go_wp2
    go_ret
    exact ⟨rfl, HW.out _ K4.out⟩
  by_cases t4 : 11 < i
  · go_wp2
    go_ret
    exact ⟨rfl, HW.out _ K4.out⟩
  by_cases t5 : y = 0
  · subst t5
    go_wp2
    go_ret
    exact ⟨rfl, HW.out _ K4.out⟩
  obtain ⟨n, rfl⟩ : ∃ n : Nat, i = n := ⟨i.toNat, by omega⟩
  have hn12 : n < 12 := by omega
  have w1 : 12 ≤ len := by omega
  have w2 : len ≤ 1000 := by omega
  have w3 : (n : Int) < (len : Int) := by omega
  have hxl := HX.out.hlen
  have hln : 12 ≤ xs.length := by omega
  have HLX := Lib.hid hxl
  have hyb : (y == 0) = false := by simpa using t5
  obtain ⟨z0, z1, z2, z3, z4, e1, k1, hr1, hf1⟩ := gotL_form xs
  have bz := HX.out.isB n
  obtain ⟨zn, hzn⟩ : ∃ zn, xs.getD n 0 = zn := ⟨_, rfl⟩
  rw [hzn] at bz
  have uu := xor_turn zn y bz.1 bz.2 y0 y1 t5
  obtain ⟨q, hq⟩ : ∃ q, bits BinOp.xor IntKind.u8 zn y = q := ⟨_, rfl⟩
  rw [hq] at uu
  obtain ⟨u0, u1, u2⟩ := uu
  have HC := Lib.hid (isB_set (n := n) HX.out.isB u0 u1)
  have HTA := Lib.hid (turn_apart xs n q hln HX.out.isB hn12 (by rw [hzn]; exact u2) HC.out)
  obtain ⟨p0, p1, p2, p3, p4, e2, k2, hr2, hf2⟩ := gotL_form (xs.set n q)
  have HZ := Lib.hid hzn
  have HR1 := Lib.hid hr1
  have HR2 := Lib.hid hr2
  have HF1 := Lib.hid hf1
  have HF2 := Lib.hid hf2
  clear hxl hr1 hr2 hf1 hf2 u0 u1 u2 bz hzn t1 t2 t3 t4 t5
  go_wp2_with fail
  have hx4 := HX.out.below K4.out
  obtain ⟨gb, ob, rfl, hgb, hyb4⟩ := hx4.mem (by omega)
  refine (get_list _ _ _ _ xs _ (HO.out.below K4.out HO.out.pos) w1 hx4.hle hx4.hcap hln hyb4 hx4.isB).mono ?_; rintro e v4 ⟨rfl, k5⟩
  rw [HR1.out]
  have K5 := Lib.hid (K4.out.trans (k5.mono K4.out.size))
  have HX5 := Lib.hid (HX.out.below K5.out)
  clear k5 hx4 hyb4
  have hal : Below v4.heap.size v4 (v4.alloc (.cells #[.int .i64 z0, .int .i64 z1, .int .i64 z2, .int .i64 z3, .int .u64 z4] 24)) := (Below.refl _ _).alloc (Nat.le_refl _) _
  have HA4 := Lib.hid hal
  clear hal
  go_wp2_with (at_builtin
               refine wpList_ap (w := (v4.alloc (.cells #[.int .i64 z0, .int .i64 z1, .int .i64 z2, .int .i64 z3, .int .u64 z4] 24)).alloc (.cells #[] 5)) rfl (.tmp 77) (.tmp 78) _ rfl (v4.heap.size + 1) 5 i0 _ 1 Tryd.underlying25 hi0 hz0 hz1 hz2 rfl (.slice (some ⟨v4.heap.size + 1, 0, none⟩) 0 0) 0 [] rfl
                 (by have := own_new (v4.alloc (.cells #[.int .i64 z0, .int .i64 z1, .int .i64 z2, .int .i64 z3, .int .u64 z4] 24)); simpa using this) (some ⟨gb, ob, none⟩) len cap (xs.map (Value.int .u8)) rfl ((HX5.out.below (HA4.out.alloc (by simp) _)).sl) (fun h => by cases h) (one_cell xs) (by simp only [maxLen]; omega) (by omega) (by simp) len (xs.map (Value.int .u8)) (by omega) rfl ?_
               intro A5 cap5 v5 hc51 hc52 hown5 hsl5 hb5
               obtain ⟨g5, rfl, hg51, hg52, hfz5, hy5⟩ := own_row hown5 (by omega)
               have cn5 : v5.cell? ⟨g5, n, none⟩ = some (.int .u8 zn) := (by have := hy5.at0 n (by omega); rwa [Nat.zero_add, HZ.out] at this)
               have fn5 := hfz5 n
               have HB5 := Lib.hid hb5
               have HY5 := Lib.hid hy5
               clear hown5 hsl5 hb5 hfz5 hy5)
  have al4 : Below v4.heap.size v4 v5 := (HA4.out.alloc (by simp) _).trans (HB5.out.mono (by omega))
  have kv5 := K5.out.trans (al4.mono K5.out.size)
  have hK5s := K5.out.size
  have kv6 := kv5.setCell (p := ⟨g5, n, none⟩) (show _ ≤ g5 by omega) (.int .u8 q)
  have hne5 : (⟨g5, n, none⟩ : Addr).block ≠ v4.heap.size := by simp; omega
  have s0 : v5.cell? ⟨v4.heap.size, 0, none⟩ = some (.int .i64 z0) := cells_below HB5.out (by simp [go_sem]) (by omega)
  have s1 : v5.cell? ⟨v4.heap.size, 1, none⟩ = some (.int .i64 z1) := cells_below HB5.out (by simp [go_sem]) (by omega)
  have s2 : v5.cell? ⟨v4.heap.size, 2, none⟩ = some (.int .i64 z2) := cells_below HB5.out (by simp [go_sem]) (by omega)
  have s3 : v5.cell? ⟨v4.heap.size, 3, none⟩ = some (.int .i64 z3) := cells_below HB5.out (by simp [go_sem]) (by omega)
  have s4 : v5.cell? ⟨v4.heap.size, 4, none⟩ = some (.int .u64 z4) := cells_below HB5.out (by simp [go_sem]) (by omega)
  refine (get_list _ _ _ _ (xs.set n q) _ (HO.out.below kv6 HO.out.pos) w1 hc51 hc52 (by simpa using hln) (byts_turn HY5.out (by omega)) HC.out).mono ?_; rintro e v6 ⟨rfl, k6⟩
  rw [HR2.out]
  have hz6 : v4.heap.size < v6.heap.size := by have := k6.size; simp [World.setCell] at this; omega
  have r0 : v6.cell? ⟨v4.heap.size, 0, none⟩ = some (.int .i64 z0) := cells_below k6 ((World.cell?_setCell_other _ _ _ _ (fun e => hne5 (by rw [e]))).trans s0) (by simp [World.setCell]; omega)
  have r1 : v6.cell? ⟨v4.heap.size, 1, none⟩ = some (.int .i64 z1) := cells_below k6 ((World.cell?_setCell_other _ _ _ _ (fun e => hne5 (by rw [e]))).trans s1) (by simp [World.setCell]; omega)
  have r2 : v6.cell? ⟨v4.heap.size, 2, none⟩ = some (.int .i64 z2) := cells_below k6 ((World.cell?_setCell_other _ _ _ _ (fun e => hne5 (by rw [e]))).trans s2) (by simp [World.setCell]; omega)
  have r3 : v6.cell? ⟨v4.heap.size, 3, none⟩ = some (.int .i64 z3) := cells_below k6 ((World.cell?_setCell_other _ _ _ _ (fun e => hne5 (by rw [e]))).trans s3) (by simp [World.setCell]; omega)
  have r4 : v6.cell? ⟨v4.heap.size, 4, none⟩ = some (.int .u64 z4) := cells_below k6 ((World.cell?_setCell_other _ _ _ _ (fun e => hne5 (by rw [e]))).trans s4) (by simp [World.setCell]; omega)
  have K6 := Lib.hid (kv6.trans (k6.mono (by simp [World.setCell]; have := kv5.size; simp at this; omega)))
  clear k6 kv6 kv5 al4 cn5 fn5 hq hK5s hne5 s0 s1 s2 s3 s4
  rcases HF1.out with g1 | ⟨rfl, l0, l1, l2, l3, l4⟩
  · go_wp2
    go_ret
    exact ⟨rfl, (HW.out _ K6.out).alloc (HW.out _ K6.out).size _⟩
  · rcases HF2.out with g2 | ⟨rfl, o0, o1, o2, o3, o4⟩
    · go_wp2
      go_ret
      exact ⟨rfl, (HW.out _ K6.out).alloc (HW.out _ K6.out).size _⟩
    · have hne := neq_ins z0 z1 z2 z3 z4 p0 p1 p2 p3 p4
      rw [show Cd.same z0 z1 z2 z3 z4 p0 p1 p2 p3 p4 = false by rw [l0, l1, l2, l3, l4, o0, o1, o2, o3, o4]; exact HTA.out] at hne
      clear l0 l1 l2 l3 l4 o0 o1 o2 o3 o4
      go_wp2
      go_ret
      exact ⟨rfl, (HW.out _ K6.out).alloc (HW.out _ K6.out).size _⟩

theorem apart_walk (op a b c m op' a' b' c' m' : Int) (A : Option Addr) (len cap : Nat) (xs : List Int) (i y : Int) (w : World) (ho : Ops w) (hx : BySl w A len cap xs) (m0 : 0 ≤ m) (m1 : m < 18446744073709551616) (n0 : 0 ≤ m') (n1 : m' < 18446744073709551616) (y0 : 0 ≤ y) (y1 : y ≤ 255) :
    Calls Tryd.prog 6 #[.agg #[.int .i64 op, .int .i64 a, .int .i64 b, .int .i64 c, .int .u64 m], .agg #[.int .i64 op', .int .i64 a', .int .i64 b', .int .i64 c', .int .u64 m'], .slice A len cap, .int .i64 i, .int .u8 y] w fun e w' => e = .returned (.bool true) ∧ Below w.heap.size w w' := by
  have he : ∀ k : Int, (k = -1 ∨ k = 0 ∨ k = 1 ∨ k = 2 ∨ k = 3 ∨ k = 4) → k ≠ -1 → (Cd.er k == 0) = false := by
    rintro k (rfl | rfl | rfl | rfl | rfl | rfl) hk <;> first | exact absurd rfl hk | rfl
  by_cases h1 : Cd.bad op a b c m = -1
  · by_cases h2 : Cd.bad op' a' b' c' m' = -1
    · exact apart_both op a b c m op' a' b' c' m' A len cap xs i y w ho hx m0 m1 n0 n1 y0 y1 (by rw [h1]; rfl) (by rw [h2]; rfl) (st_same h1 h2 m0 m1 n0 n1)
    · exact apart_half op a b c m op' a' b' c' m' A len cap xs i y w ho hx m0 m1 n0 n1 y0 y1 (by rw [h1]; rfl) (he _ (Cd.bad_cases _ _ _ _ _) h2)
  · exact apart_no op a b c m op' a' b' c' m' A len cap xs i y w ho hx m0 m1 n0 n1 y0 y1 (he _ (Cd.bad_cases _ _ _ _ _) h1)
end Go.Proofs.YtdifbjpcanfgoaaDoor
