/-
  The walk of the law on an instruction's bytes.
-/
import Derived.Test.YtdifbjpcanfgoaaDoorG1
namespace Go.Proofs.YtdifbjpcanfgoaaDoor
open Go.RowKit

set_option maxHeartbeats 400000 in
theorem puts_long (op a b c m : Int) (A : Option Addr) (len cap : Nat) (w : World) (ho : Ops w) (hl : 1000 < len) :
    Calls Tryd.prog 3 #[.agg #[.int .i64 op, .int .i64 a, .int .i64 b, .int .i64 c, .int .u64 m], .slice A len cap] w fun e w' => e = .returned (.bool true) ∧ Below w.heap.size w w' := by
  have hp := ho.pos
  have HO := Lib.hid (ho.below ((Below.refl w.heap.size w).alloc (Nat.le_refl _) (.cells #[.int .i64 op, .int .i64 a, .int .i64 b, .int .i64 c, .int .u64 m] 24)) hp)
  clear ho
  go_enter Tryd.func3, Tryd.ntmps3
  go_wp2_with fail
  refine (awake_any _ HO.out).mono ?_; rintro e v1 ⟨rfl, k1⟩
  have K1 := Lib.hid k1
  clear k1
  go_wp2
  go_ret
  exact ⟨rfl, ((Below.refl _ _).alloc (Nat.le_refl _) _).trans (K1.out.mono (by simp))⟩

set_option maxHeartbeats 1000000 in
theorem puts_bad (op a b c m : Int) (A : Option Addr) (len cap : Nat) (w : World) (ho : Ops w) (hl : len ≤ 1000) (hbd : Cd.bad op a b c m ≠ -1) :
    Calls Tryd.prog 3 #[.agg #[.int .i64 op, .int .i64 a, .int .i64 b, .int .i64 c, .int .u64 m], .slice A len cap] w fun e w' => e = .returned (.bool true) ∧ Below w.heap.size w w' := by
  have hp := ho.pos
  have HO := Lib.hid (ho.below ((Below.refl w.heap.size w).alloc (Nat.le_refl _) (.cells #[.int .i64 op, .int .i64 a, .int .i64 b, .int .i64 c, .int .u64 m] 24)) hp)
  clear ho
  have he : (Cd.er (Cd.bad op a b c m) != 0) = true := by
    rcases Cd.bad_cases op a b c m with h | h | h | h | h | h <;> rw [h] at hbd ⊢ <;> simp [Cd.er] at hbd ⊢
  have HD := Lib.hid hbd
  clear hbd
  have hnil : ∀ W : World, (convert 25 9 (.slice none 0 0)).run Tryd.prog W = .ok (.string ByteArray.empty) W := fun W => run_convert_bytes_nil W 25 5 Tryd.underlying25 Tryd.underlying5 0 0 9 Tryd.underlying9
  go_enter Tryd.func3, Tryd.ntmps3
  go_wp2_with fail
  refine (awake_any _ HO.out).mono ?_; rintro e v1 ⟨rfl, k1⟩
  have c0 : v1.cell? ⟨w.heap.size, 0, none⟩ = some (.int .i64 op) := cells_below k1 (by simp [go_sem]) (by simp)
  have c1 : v1.cell? ⟨w.heap.size, 1, none⟩ = some (.int .i64 a) := cells_below k1 (by simp [go_sem]) (by simp)
  have c2 : v1.cell? ⟨w.heap.size, 2, none⟩ = some (.int .i64 b) := cells_below k1 (by simp [go_sem]) (by simp)
  have c3 : v1.cell? ⟨w.heap.size, 3, none⟩ = some (.int .i64 c) := cells_below k1 (by simp [go_sem]) (by simp)
  have c4 : v1.cell? ⟨w.heap.size, 4, none⟩ = some (.int .u64 m) := cells_below k1 (by simp [go_sem]) (by simp)
  have HO1 := Lib.hid (HO.out.below k1 HO.out.pos)
  have K1 := Lib.hid k1
  clear k1
  go_wp2_with fail
  refine (put_bad _ _ _ _ _ _ HO1.out HD.out).mono ?_; rintro e v2 ⟨rfl, k2⟩
  have k12 := K1.out.trans (k2.mono K1.out.size)
  have d0 : v2.cell? ⟨w.heap.size, 0, none⟩ = some (.int .i64 op) := cells_below k12 (by simp [go_sem]) (by simp)
  have d1 : v2.cell? ⟨w.heap.size, 1, none⟩ = some (.int .i64 a) := cells_below k12 (by simp [go_sem]) (by simp)
  have d2 : v2.cell? ⟨w.heap.size, 2, none⟩ = some (.int .i64 b) := cells_below k12 (by simp [go_sem]) (by simp)
  have d3 : v2.cell? ⟨w.heap.size, 3, none⟩ = some (.int .i64 c) := cells_below k12 (by simp [go_sem]) (by simp)
  have d4 : v2.cell? ⟨w.heap.size, 4, none⟩ = some (.int .u64 m) := cells_below k12 (by simp [go_sem]) (by simp)
  have K2 := Lib.hid k12
  clear k2 k12 c0 c1 c2 c3 c4
  go_wp2_with fail
  refine (rput_bad _ _ _ _ _ _ HD.out).mono ?_; rintro e v3 ⟨rfl, k3⟩
  have K3 := Lib.hid (K2.out.trans (k3.mono K2.out.size))
  clear k3 d0 d1 d2 d3 d4
  go_wp2
  go_ret
  exact ⟨rfl, ((Below.refl _ _).alloc (Nat.le_refl _) _).trans (K3.out.mono (by simp))⟩

set_option maxHeartbeats 1000000 in
theorem puts_ok (op a b c m : Int) (A : Option Addr) (len cap : Nat) (xs : List Int) (w : World) (ho : Ops w) (hx : BySl w A len cap xs) (hl : len ≤ 1000) (hbd : Cd.bad op a b c m = -1) (m0 : 0 ≤ m) (m1 : m < 18446744073709551616) :
    Calls Tryd.prog 3 #[.agg #[.int .i64 op, .int .i64 a, .int .i64 b, .int .i64 c, .int .u64 m], .slice A len cap] w fun e w' => e = .returned (.bool true) ∧ Below w.heap.size w w' := by
  obtain ⟨i0, hi0, hz0, hz1, hz2⟩ := info_parts u8_info
  have HX := Lib.hid (hx.below ((Below.refl w.heap.size w).alloc (Nat.le_refl _) (.cells #[.int .i64 op, .int .i64 a, .int .i64 b, .int .i64 c, .int .u64 m] 24)))
  clear hx
  have hp := ho.pos
  have HO := Lib.hid (ho.below ((Below.refl w.heap.size w).alloc (Nat.le_refl _) (.cells #[.int .i64 op, .int .i64 a, .int .i64 b, .int .i64 c, .int .u64 m] 24)) hp)
  clear ho
  have HR := Lib.hid (gotL_bts hbd m0 m1 xs)
  have HI := Lib.hid (isB_append (isB_bts hbd) HX.out.isB)
  have HD := Lib.hid hbd
  have HM := Lib.hid m1
  have hxl := HX.out.hlen
  have HLX := Lib.hid hxl
  have hln : 12 ≤ (Cd.bts op a b c m ++ xs).length := by rw [List.length_append]; simp [Cd.bts]
  clear hbd m1 hxl
  go_enter Tryd.func3, Tryd.ntmps3
  go_wp2_with fail
  refine (awake_any _ HO.out).mono ?_; rintro e v1 ⟨rfl, k1⟩
  have c0 : v1.cell? ⟨w.heap.size, 0, none⟩ = some (.int .i64 op) := cells_below k1 (by simp [go_sem]) (by simp)
  have c1 : v1.cell? ⟨w.heap.size, 1, none⟩ = some (.int .i64 a) := cells_below k1 (by simp [go_sem]) (by simp)
  have c2 : v1.cell? ⟨w.heap.size, 2, none⟩ = some (.int .i64 b) := cells_below k1 (by simp [go_sem]) (by simp)
  have c3 : v1.cell? ⟨w.heap.size, 3, none⟩ = some (.int .i64 c) := cells_below k1 (by simp [go_sem]) (by simp)
  have c4 : v1.cell? ⟨w.heap.size, 4, none⟩ = some (.int .u64 m) := cells_below k1 (by simp [go_sem]) (by simp)
  have HO1 := Lib.hid (HO.out.below k1 HO.out.pos)
  have K1 := Lib.hid k1
  clear k1
  go_wp2_with fail
  refine (put_ok _ _ _ _ _ _ HO1.out HD.out m0 HM.out).mono ?_; rintro e v2 ⟨g2, rfl, hg2, hk2, k2⟩
  have k12 := K1.out.trans (k2.mono K1.out.size)
  have d0 : v2.cell? ⟨w.heap.size, 0, none⟩ = some (.int .i64 op) := cells_below k12 (by simp [go_sem]) (by simp)
  have d1 : v2.cell? ⟨w.heap.size, 1, none⟩ = some (.int .i64 a) := cells_below k12 (by simp [go_sem]) (by simp)
  have d2 : v2.cell? ⟨w.heap.size, 2, none⟩ = some (.int .i64 b) := cells_below k12 (by simp [go_sem]) (by simp)
  have d3 : v2.cell? ⟨w.heap.size, 3, none⟩ = some (.int .i64 c) := cells_below k12 (by simp [go_sem]) (by simp)
  have d4 : v2.cell? ⟨w.heap.size, 4, none⟩ = some (.int .u64 m) := cells_below k12 (by simp [go_sem]) (by simp)
  have HY2 := Lib.hid (Byts.of_blk hk2)
  have hz2' : g2 < v2.heap.size := HY2.out.lt (by simp [Cd.bts])
  have K2 := Lib.hid k12
  clear k2 k12 hk2 hg2 c0 c1 c2 c3 c4
  go_wp2_with fail
  refine (rput_ok _ _ _ _ _ _ HD.out m0 HM.out).mono ?_; rintro e v3 ⟨g3, cap3, rfl, hy3, k3⟩
  have k13 := K2.out.trans (k3.mono K2.out.size)
  have HY3 := Lib.hid (HY2.out.below k3 hz2')
  have K3 := Lib.hid k13
  have HX3 := Lib.hid (HX.out.below k13)
  have q1 : (convert 25 9 (.slice (some ⟨g2, 0, none⟩) 12 12)).run Tryd.prog v3 = .ok (.string (strOfNums (Cd.bts op a b c m))) v3 :=
    run_convert_bytes_arg v3 25 5 Tryd.underlying25 Tryd.underlying5 g2 0 12 12 (Cd.bts op a b c m) rfl (fun i hi => HY3.out.at0 i hi) 9 Tryd.underlying9
  have q2 : (convert 25 9 (.slice (some ⟨g3, 0, none⟩) 12 cap3)).run Tryd.prog v3 = .ok (.string (strOfNums (Cd.bts op a b c m))) v3 :=
    run_convert_bytes_arg v3 25 5 Tryd.underlying25 Tryd.underlying5 g3 0 12 cap3 (Cd.bts op a b c m) rfl (fun i hi => hy3.at0 i hi) 9 Tryd.underlying9
  have hg23 : g2 < v3.heap.size := Nat.lt_of_lt_of_le hz2' k3.size
  have HS3 := Lib.hid (show Sl v3 (some ⟨g2, 0, none⟩) 12 ((Cd.bts op a b c m).map (Value.int .u8)) from ⟨rfl, fun _ => ⟨g2, 0, rfl, hg23, HY3.out.news⟩⟩)
  clear k3 k13 hy3 d0 d1 d2 d3 d4
  go_wp2_with (first
    | (at_builtin
       refine wpList_ap (w := v3.alloc (.cells #[] 5)) rfl (.tmp 40) (.tmp 41) _ rfl v3.heap.size 5 i0 _ 1 Tryd.underlying25 hi0 hz0 hz1 hz2 rfl (.slice (some ⟨v3.heap.size, 0, none⟩) 0 0) 0 [] rfl
         (own_new v3) (some ⟨g2, 0, none⟩) 12 12 ((Cd.bts op a b c m).map (Value.int .u8)) rfl (HS3.out.below ((Below.refl _ _).alloc (Nat.le_refl _) _)) (fun h => by cases h) (one_cell _) (by simp only [maxLen]; omega) (by omega) (by simp) 12 ((Cd.bts op a b c m).map (Value.int .u8)) rfl rfl ?_
       intro A4 cap4 v4 hc41 hc42 hown4 hsl4 hb4)
    | (at_builtin
       refine wpList_ap (w := v4) rfl (.tmp 42) (.tmp 43) _ rfl v3.heap.size 5 i0 _ 1 Tryd.underlying25 hi0 hz0 hz1 hz2 rfl (.slice A4 12 cap4) 12 ((Cd.bts op a b c m).map (Value.int .u8)) rfl
         hown4 A len cap (xs.map (Value.int .u8)) rfl (HX3.out.below (((Below.refl _ _).alloc (Nat.le_refl _) _).trans hb4)).sl HX3.out.hnone (one_cell xs) (by simp only [maxLen]; omega) (by omega) (Nat.le_trans (by simp) hb4.size) (12 + len) ((Cd.bts op a b c m ++ xs).map (Value.int .u8)) rfl (by rw [List.map_append]) ?_
       intro A5 cap5 v5 hc51 hc52 hown5 hsl5 hb5))
  have b35 : Below v3.heap.size v3 v5 := (((Below.refl _ _).alloc (Nat.le_refl _) _).trans hb4).trans hb5
  have k15 := K3.out.trans (b35.mono K3.out.size)
  obtain ⟨g5, o5, rfl, hg5, hy5⟩ := byts_of_sl hsl5 (by omega)
  have K5 := Lib.hid k15
  have HO5 := Lib.hid (HO.out.below k15 HO.out.pos)
  clear b35 k15 hb4 hb5 hsl4 hsl5 hown4 hown5 q1 q2
  refine (get_list _ _ _ _ _ _ HO5.out (by omega) hc51 hc52 hln hy5 HI.out).mono ?_; rintro e v6 ⟨rfl, k6⟩
  rw [HR.out]
  have k16 := K5.out.trans (k6.mono K5.out.size)
  have hz6 : w.heap.size < v6.heap.size := by have := k16.size; simp at this; omega
  have f0 : v6.cell? ⟨w.heap.size, 0, none⟩ = some (.int .i64 op) := cells_below k16 (by simp [go_sem]) (by simp)
  have f1 : v6.cell? ⟨w.heap.size, 1, none⟩ = some (.int .i64 a) := cells_below k16 (by simp [go_sem]) (by simp)
  have f2 : v6.cell? ⟨w.heap.size, 2, none⟩ = some (.int .i64 b) := cells_below k16 (by simp [go_sem]) (by simp)
  have f3 : v6.cell? ⟨w.heap.size, 3, none⟩ = some (.int .i64 c) := cells_below k16 (by simp [go_sem]) (by simp)
  have f4 : v6.cell? ⟨w.heap.size, 4, none⟩ = some (.int .u64 m) := cells_below k16 (by simp [go_sem]) (by simp)
  have K6 := Lib.hid k16
  clear k16 k6 hy5
  go_wp2
  go_ret
  exact ⟨rfl, (((Below.refl _ _).alloc (Nat.le_refl _) _).trans (K6.out.mono (by simp))).alloc (by omega) _⟩

theorem puts_walk (op a b c m : Int) (A : Option Addr) (len cap : Nat) (xs : List Int) (w : World) (ho : Ops w) (hx : BySl w A len cap xs) (m0 : 0 ≤ m) (m1 : m < 18446744073709551616) :
    Calls Tryd.prog 3 #[.agg #[.int .i64 op, .int .i64 a, .int .i64 b, .int .i64 c, .int .u64 m], .slice A len cap] w fun e w' => e = .returned (.bool true) ∧ Below w.heap.size w w' := by
  by_cases h1 : 1000 < len
  · exact puts_long op a b c m A len cap w ho h1
  · by_cases hb : Cd.bad op a b c m = -1
    · exact puts_ok op a b c m A len cap xs w ho hx (by omega) hb m0 m1
    · exact puts_bad op a b c m A len cap w ho (by omega) hb
end Go.Proofs.YtdifbjpcanfgoaaDoor
