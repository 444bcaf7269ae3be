/-
  The walk of the law on bytes that tell an instruction.
-/
import Derived.Test.YtdifbjpcanfgoaaDoorG0
namespace Go.Proofs.YtdifbjpcanfgoaaDoor
open Go.RowKit

/-- An empty row of bytes, just made. -/
theorem own_new (w : World) : (w.alloc (.cells #[] 5)).ownsRow w.heap.size 5 1 (.slice (some ⟨w.heap.size, 0, none⟩) 0 0) 0 [] :=
  ⟨rfl, .inr ⟨w.heap.size, 0, #[], rfl, Nat.le_refl _, heap_alloc_new w _, Nat.le_refl _, Nat.zero_le _, rfl, rfl⟩⟩

set_option maxHeartbeats 400000 in
theorem gets_long (A : Option Addr) (len cap : Nat) (w : World) (ho : Ops w) (hl : 1000 < len) :
    Calls Tryd.prog 4 #[.slice A len cap] w fun e w' => e = .returned (.bool true) ∧ Below w.heap.size w w' := by
  have HO := Lib.hid ho
  clear ho
  go_enter Tryd.func4, Tryd.ntmps4
  go_wp2_with fail
  refine (awake_any _ HO.out).mono ?_; rintro e v ⟨rfl, hb⟩
  have HB := Lib.hid hb
  clear hb
  go_wp2
  go_ret
  exact ⟨rfl, HB.out⟩

set_option maxHeartbeats 1000000 in
theorem gets_short (A : Option Addr) (len cap : Nat) (xs : List Int) (w : World) (ho : Ops w) (hx : BySl w A len cap xs) (hl : len < 12) :
    Calls Tryd.prog 4 #[.slice A len cap] w fun e w' => e = .returned (.bool true) ∧ Below w.heap.size w w' := by
  obtain ⟨i0, hi0, hz0, hz1, hz2⟩ := info_parts u8_info
  have hp := ho.pos
  have HO := Lib.hid ho
  have HX := Lib.hid hx
  clear ho hx
  go_enter Tryd.func4, Tryd.ntmps4
  go_wp2_with fail
  refine (awake_any _ HO.out).mono ?_; rintro e v ⟨rfl, hb⟩
  have HV := Lib.hid (HX.out.below hb)
  have HB := Lib.hid hb
  clear hb
  go_wp2_with (at_builtin
               refine wpList_ap (w := v.alloc (.cells #[] 5)) rfl (.tmp 17) (.tmp 18) _ rfl v.heap.size 5 i0 _ 1 Tryd.underlying25 hi0 hz0 hz1 hz2 rfl (.slice (some ⟨v.heap.size, 0, none⟩) 0 0) 0 [] rfl
                 (own_new v) A len cap (xs.map (Value.int .u8)) rfl (HV.out.sl.below ((Below.refl _ _).alloc (Nat.le_refl _) _)) HV.out.hnone (one_cell xs) (by simp only [maxLen]; omega) (by omega) (by simp) len (xs.map (Value.int .u8)) (by omega) rfl ?_
               intro A' cap' v2 hc1 hc2 hown hsl hb2)
  have bl2 : Below v.heap.size v v2 := ((Below.refl _ _).alloc (Nat.le_refl _) _).trans hb2
  have bw2 : Below w.heap.size w v2 := HB.out.trans (bl2.mono HB.out.size)
  have HV2 := Lib.hid (HV.out.below bl2)
  have HO2 := Lib.hid (HO.out.below bw2 hp)
  refine (get_short _ _ _ _ hl).mono ?_
  rintro e v3 ⟨rfl, hb3⟩
  have bw3 : Below w.heap.size w v3 := bw2.trans (hb3.mono bw2.size)
  have HV3 := Lib.hid (HV2.out.below hb3)
  have HO3 := Lib.hid (HO2.out.below hb3 HO2.out.pos)
  have HB3 := Lib.hid bw3
  clear hb2 hb3 bl2 bw2 bw3 hown hsl hc1 hc2
  go_wp2_with fail
  refine (rget_short _ _ _ _ hl).mono ?_
  rintro e v4 ⟨rfl, hb4⟩
  have hz : v3.heap.size < v4.heap.size := by have := hb4.size; simp at this; omega
  have c0 : v4.cell? ⟨v3.heap.size, 0, none⟩ = some (.int .i64 0) := cells_below hb4 (by simp [go_sem]) (by simp; try omega)
  have c1 : v4.cell? ⟨v3.heap.size, 1, none⟩ = some (.int .i64 0) := cells_below hb4 (by simp [go_sem]) (by simp; try omega)
  have c2 : v4.cell? ⟨v3.heap.size, 2, none⟩ = some (.int .i64 0) := cells_below hb4 (by simp [go_sem]) (by simp; try omega)
  have c3 : v4.cell? ⟨v3.heap.size, 3, none⟩ = some (.int .i64 0) := cells_below hb4 (by simp [go_sem]) (by simp; try omega)
  have c4 : v4.cell? ⟨v3.heap.size, 4, none⟩ = some (.int .u64 0) := cells_below hb4 (by simp [go_sem]) (by simp; try omega)
  have al3 := ((Below.refl v3.heap.size v3).alloc (Nat.le_refl _) (.cells #[.int .i64 0, .int .i64 0, .int .i64 0, .int .i64 0, .int .u64 0] 24)).trans (hb4.mono (by simp))
  have bw4 : Below w.heap.size w v4 := HB3.out.trans (al3.mono HB3.out.size)
  have HB4 := Lib.hid bw4
  have HV4 := Lib.hid (HV3.out.below al3)
  have HO4 := Lib.hid (HO3.out.below al3 HO3.out.pos)
  clear hb4 bw4 al3
  go_wp2
  go_ret
  exact ⟨rfl, HB4.out.alloc HB4.out.size _⟩

set_option maxHeartbeats 1000000 in
theorem gets_bad (A : Option Addr) (len cap : Nat) (xs : List Int) (w : World) (ho : Ops w) (hx : BySl w A len cap xs) (hl : 12 ≤ len) (hk : len ≤ 1000) (e0 k0 : Int) (he : (e0 != 0) = true) (hr : Cd.gotL xs = .tuple #[.agg #[.int .i64 0, .int .i64 0, .int .i64 0, .int .i64 0, .int .u64 0], .int .i64 e0, .int .i64 k0]) :
    Calls Tryd.prog 4 #[.slice A len cap] w fun e w' => e = .returned (.bool true) ∧ Below w.heap.size w w' := by
  have HR := Lib.hid hr
  clear hr
  obtain ⟨i0, hi0, hz0, hz1, hz2⟩ := info_parts u8_info
  have hp := ho.pos
  have HO := Lib.hid ho
  have HX := Lib.hid hx
  clear ho hx
  have hxl := HX.out.hlen
  have hxB := Lib.hid HX.out.isB
  have hxn : 12 ≤ xs.length := by omega
  have HL := Lib.hid hxl
  clear hxl
  go_enter Tryd.func4, Tryd.ntmps4
  go_wp2_with fail
  refine (awake_any _ HO.out).mono ?_; rintro e v ⟨rfl, hb⟩
  have HV := Lib.hid (HX.out.below hb)
  have HB := Lib.hid hb
  clear hb
  go_wp2_with (at_builtin
               refine wpList_ap (w := v.alloc (.cells #[] 5)) rfl (.tmp 17) (.tmp 18) _ rfl v.heap.size 5 i0 _ 1 Tryd.underlying25 hi0 hz0 hz1 hz2 rfl (.slice (some ⟨v.heap.size, 0, none⟩) 0 0) 0 [] rfl
                 (own_new v) A len cap (xs.map (Value.int .u8)) rfl (HV.out.sl.below ((Below.refl _ _).alloc (Nat.le_refl _) _)) HV.out.hnone (one_cell xs) (by simp only [maxLen]; omega) (by omega) (by simp) len (xs.map (Value.int .u8)) (by omega) rfl ?_
               intro A' cap' v2 hc1 hc2 hown hsl hb2)
  have bl2 : Below v.heap.size v v2 := ((Below.refl _ _).alloc (Nat.le_refl _) _).trans hb2
  have bw2 : Below w.heap.size w v2 := HB.out.trans (bl2.mono HB.out.size)
  have HV2 := Lib.hid (HV.out.below bl2)
  have HO2 := Lib.hid (HO.out.below bw2 hp)
  obtain ⟨g, o, rfl, hg, hxs⟩ := byts_of_sl hsl (by omega)
  refine (get_list _ _ _ _ xs _ HO2.out hl hc1 hc2 hxn hxs hxB.out).mono ?_
  rintro e v3 ⟨rfl, hb3⟩
  have bw3 : Below w.heap.size w v3 := bw2.trans (hb3.mono bw2.size)
  have HV3 := Lib.hid (HV2.out.below hb3)
  have HO3 := Lib.hid (HO2.out.below hb3 HO2.out.pos)
  have HB3 := Lib.hid bw3
  clear hb2 hb3 bl2 bw2 bw3 hown hsl hc1 hc2
  rw [HR.out]
  go_wp2_with fail
  obtain ⟨b1, o1, rfl, hb1, hy⟩ := (HV3.out.below ((Below.refl _ _).alloc (Nat.le_refl _) (.cells #[.int .i64 0, .int .i64 0, .int .i64 0, .int .i64 0, .int .u64 0] 24))).mem (by omega)
  refine (rget_list _ _ _ _ xs _ hl hxn hy hxB.out).mono ?_
  rintro e v4 ⟨rfl, hb4⟩
  have hz : v3.heap.size < v4.heap.size := by have := hb4.size; simp at this; omega
  have c0 : v4.cell? ⟨v3.heap.size, 0, none⟩ = some (.int .i64 0) := cells_below hb4 (by simp [go_sem]) (by simp; try omega)
  have c1 : v4.cell? ⟨v3.heap.size, 1, none⟩ = some (.int .i64 0) := cells_below hb4 (by simp [go_sem]) (by simp; try omega)
  have c2 : v4.cell? ⟨v3.heap.size, 2, none⟩ = some (.int .i64 0) := cells_below hb4 (by simp [go_sem]) (by simp; try omega)
  have c3 : v4.cell? ⟨v3.heap.size, 3, none⟩ = some (.int .i64 0) := cells_below hb4 (by simp [go_sem]) (by simp; try omega)
  have c4 : v4.cell? ⟨v3.heap.size, 4, none⟩ = some (.int .u64 0) := cells_below hb4 (by simp [go_sem]) (by simp; try omega)
  have al3 := ((Below.refl v3.heap.size v3).alloc (Nat.le_refl _) (.cells #[.int .i64 0, .int .i64 0, .int .i64 0, .int .i64 0, .int .u64 0] 24)).trans (hb4.mono (by simp))
  have bw4 : Below w.heap.size w v4 := HB3.out.trans (al3.mono HB3.out.size)
  have HB4 := Lib.hid bw4
  have HV4 := Lib.hid (HV3.out.below al3)
  have HO4 := Lib.hid (HO3.out.below al3 HO3.out.pos)
  clear hb4 bw4 al3
  rw [HR.out]
  clear hy
  go_wp2
  go_ret
  exact ⟨rfl, HB4.out.alloc HB4.out.size _⟩

set_option maxHeartbeats 1000000 in
theorem gets_ok (A : Option Addr) (len cap : Nat) (xs : List Int) (w : World) (ho : Ops w) (hx : BySl w A len cap xs) (hl : 12 ≤ len) (hk : len ≤ 1000) (z0 z1 z2 z3 m : Int) (hbd : Cd.bad z0 z1 z2 z3 m = -1) (m0 : 0 ≤ m) (m1 : m < 18446744073709551616) (hbt : Cd.bts z0 z1 z2 z3 m = xs.take 12) (hr : Cd.gotL xs = .tuple #[.agg #[.int .i64 z0, .int .i64 z1, .int .i64 z2, .int .i64 z3, .int .u64 m], .int .i64 0, .int .i64 0]) :
    Calls Tryd.prog 4 #[.slice A len cap] w fun e w' => e = .returned (.bool true) ∧ Below w.heap.size w w' := by
  have HR := Lib.hid hr
  have HT := Lib.hid hbt
  have HD := Lib.hid hbd
  have HM := Lib.hid m1
  clear hr hbt hbd m1
  obtain ⟨i0, hi0, hz0, hz1, hz2⟩ := info_parts u8_info
  have hp := ho.pos
  have HO := Lib.hid ho
  have HX := Lib.hid hx
  clear ho hx
  have hxl := HX.out.hlen
  have hxB := Lib.hid HX.out.isB
  have hxn : 12 ≤ xs.length := by omega
  have HL := Lib.hid hxl
  clear hxl
  go_enter Tryd.func4, Tryd.ntmps4
  go_wp2_with fail
  refine (awake_any _ HO.out).mono ?_; rintro e v ⟨rfl, hb⟩
  have HV := Lib.hid (HX.out.below hb)
  have HB := Lib.hid hb
  clear hb
  go_wp2_with (at_builtin
               refine wpList_ap (w := v.alloc (.cells #[] 5)) rfl (.tmp 17) (.tmp 18) _ rfl v.heap.size 5 i0 _ 1 Tryd.underlying25 hi0 hz0 hz1 hz2 rfl (.slice (some ⟨v.heap.size, 0, none⟩) 0 0) 0 [] rfl
                 (own_new v) A len cap (xs.map (Value.int .u8)) rfl (HV.out.sl.below ((Below.refl _ _).alloc (Nat.le_refl _) _)) HV.out.hnone (one_cell xs) (by simp only [maxLen]; omega) (by omega) (by simp) len (xs.map (Value.int .u8)) (by omega) rfl ?_
               intro A' cap' v2 hc1 hc2 hown hsl hb2)
  have bl2 : Below v.heap.size v v2 := ((Below.refl _ _).alloc (Nat.le_refl _) _).trans hb2
  have bw2 : Below w.heap.size w v2 := HB.out.trans (bl2.mono HB.out.size)
  have HV2 := Lib.hid (HV.out.below bl2)
  have HO2 := Lib.hid (HO.out.below bw2 hp)
  obtain ⟨g, o, rfl, hg, hxs⟩ := byts_of_sl hsl (by omega)
  refine (get_list _ _ _ _ xs _ HO2.out hl hc1 hc2 hxn hxs hxB.out).mono ?_
  rintro e v3 ⟨rfl, hb3⟩
  have bw3 : Below w.heap.size w v3 := bw2.trans (hb3.mono bw2.size)
  have HV3 := Lib.hid (HV2.out.below hb3)
  have HO3 := Lib.hid (HO2.out.below hb3 HO2.out.pos)
  have HB3 := Lib.hid bw3
  clear hb2 hb3 bl2 bw2 bw3 hown hsl hc1 hc2
  rw [HR.out]
  go_wp2_with fail
  obtain ⟨b1, o1, rfl, hb1, hy⟩ := (HV3.out.below ((Below.refl _ _).alloc (Nat.le_refl _) (.cells #[.int .i64 z0, .int .i64 z1, .int .i64 z2, .int .i64 z3, .int .u64 m] 24))).mem (by omega)
  refine (rget_list _ _ _ _ xs _ hl hxn hy hxB.out).mono ?_
  rintro e v4 ⟨rfl, hb4⟩
  have hz : v3.heap.size < v4.heap.size := by have := hb4.size; simp at this; omega
  have c0 : v4.cell? ⟨v3.heap.size, 0, none⟩ = some (.int .i64 z0) := cells_below hb4 (by simp [go_sem]) (by simp; try omega)
  have c1 : v4.cell? ⟨v3.heap.size, 1, none⟩ = some (.int .i64 z1) := cells_below hb4 (by simp [go_sem]) (by simp; try omega)
  have c2 : v4.cell? ⟨v3.heap.size, 2, none⟩ = some (.int .i64 z2) := cells_below hb4 (by simp [go_sem]) (by simp; try omega)
  have c3 : v4.cell? ⟨v3.heap.size, 3, none⟩ = some (.int .i64 z3) := cells_below hb4 (by simp [go_sem]) (by simp; try omega)
  have c4 : v4.cell? ⟨v3.heap.size, 4, none⟩ = some (.int .u64 m) := cells_below hb4 (by simp [go_sem]) (by simp; try omega)
  have al3 := ((Below.refl v3.heap.size v3).alloc (Nat.le_refl _) (.cells #[.int .i64 z0, .int .i64 z1, .int .i64 z2, .int .i64 z3, .int .u64 m] 24)).trans (hb4.mono (by simp))
  have bw4 : Below w.heap.size w v4 := HB3.out.trans (al3.mono HB3.out.size)
  have HB4 := Lib.hid bw4
  have HV4 := Lib.hid (HV3.out.below al3)
  have HO4 := Lib.hid (HO3.out.below al3 HO3.out.pos)
  clear hb4 bw4 al3
  rw [HR.out]
  clear hy
  go_wp2_with fail
  refine (put_ok _ _ _ _ _ _ (HO4.out.below ((Below.refl _ _).alloc (Nat.le_refl _) _) HO4.out.pos) HD.out m0 HM.out).mono ?_
  rintro e v5 ⟨g5, rfl, hg5, hk5, hb5⟩
  have bl5 := ((Below.refl v4.heap.size v4).alloc (Nat.le_refl _) (.cells #[.int .i64 z0, .int .i64 z1, .int .i64 z2, .int .i64 z3, .int .u64 m] 24)).trans (hb5.mono (by simp))
  have HB5 := Lib.hid (HB4.out.trans (bl5.mono HB4.out.size))
  obtain ⟨b6, o6, e6, _, hy5⟩ := (HV4.out.below bl5).mem (by omega)
  obtain ⟨rfl, rfl⟩ : b1 = b6 ∧ o1 = o6 := by simpa using e6
  have hbk := Byts.of_blk hk5
  have hcap := HX.out.hle
  have q1 : ∀ n, (convert 25 9 (.slice (some ⟨g5, 0, none⟩) 12 12)).run Tryd.prog (v5.drewN n) = .ok (.string (strOfNums (Cd.bts z0 z1 z2 z3 m))) (v5.drewN n) := fun n =>
    run_convert_bytes_arg (v5.drewN n) 25 5 Tryd.underlying25 Tryd.underlying5 g5 0 12 12 (Cd.bts z0 z1 z2 z3 m) rfl (fun i hi => hbk.at0 i hi) 9 Tryd.underlying9
  have q2 : ∀ n, (convert 25 9 (.slice (some ⟨b1, o1, none⟩) 12 cap)).run Tryd.prog (v5.drewN n) = .ok (.string (strOfNums (Cd.bts z0 z1 z2 z3 m))) (v5.drewN n) := fun n => by
    rw [HT.out]
    exact run_convert_bytes_arg (v5.drewN n) 25 5 Tryd.underlying25 Tryd.underlying5 b1 o1 12 cap (xs.take 12) (by rw [List.length_take]; omega) (fun i hi => (hy5.at0 i (by omega)).trans (by
      rw [List.getD_eq_getElem?_getD, List.getD_eq_getElem?_getD, List.getElem?_take_of_lt hi])) 9 Tryd.underlying9
  have l12 : (12 : Int) ≤ (cap : Int) := by omega
  clear hk5 hb5 bl5 e6 hy5 hbk hg5
  go_wp2
  go_quiet (fail)
  go_wp2
  go_ret
  exact ⟨rfl, below_drewN HB5.out nq⟩

theorem gets_walk (A : Option Addr) (len cap : Nat) (xs : List Int) (w : World) (ho : Ops w) (hx : BySl w A len cap xs) :
    Calls Tryd.prog 4 #[.slice A len cap] w fun e w' => e = .returned (.bool true) ∧ Below w.heap.size w w' := by
  by_cases h1 : 1000 < len
  · exact gets_long A len cap w ho h1
  · by_cases h2 : len < 12
    · exact gets_short A len cap xs w ho hx h2
    · by_cases hb : Cd.bad (xs.getD 0 0) (xs.getD 1 0) (xs.getD 2 0) (xs.getD 3 0) (Cd.val xs) = -1
      · obtain ⟨m0, m1⟩ := val_bd xs hx.isB
        exact gets_ok A len cap xs w ho hx (by omega) (by omega) _ _ _ _ _ hb m0 m1 (bts_val xs (by have := hx.hlen; omega) hx.isB) (gotL_ok hb)
      · obtain ⟨e, k, he, hr⟩ := gotL_bad hb
        exact gets_bad A len cap xs w ho hx (by omega) (by omega) e k he hr
end Go.Proofs.YtdifbjpcanfgoaaDoor
