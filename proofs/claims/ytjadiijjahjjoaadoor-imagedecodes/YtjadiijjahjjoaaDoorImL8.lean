/-
  The walk of the law on bytes that are decoded.
-/
import Derived.Test.YtjadiijjahjjoaaDoorImN7
import Derived.Test.YtjadiijjahjjoaaDoorImL5
namespace Go.Proofs.YtjadiijjahjjoaaDoor
open Go.RowKit

theorem Im.same_self (p : Im.Pic) : Im.same p p = true := Im.same_yes rfl rfl rfl rfl rfl rfl
def Im.P0 : Im.Pic := ⟨0, 0, 0, [], [], []⟩
theorem ImAt.nil (W : World) : ImAt W none 0 0 none 0 0 none 0 0 Im.P0 :=
  ⟨BySl.nil, ⟨rfl, Nat.le_refl _, Nat.zero_le _, fun _ => rfl, fun h => absurd h (by omega)⟩, ⟨rfl, Nat.le_refl _, Nat.zero_le _, fun _ => rfl, fun i => by show 0 ≤ (0 : Int) ∧ (0 : Int) < _; omega, fun h => absurd h (by omega)⟩⟩

set_option maxRecDepth 10000 in
set_option maxHeartbeats 800000 in
theorem decodes_out (A : Option Addr) (len cap : Nat) (w : World) (ho : Ops w) (hl : len ≤ 9223372036854775807) (h1 : 4000 < len) :
    Calls Tryd.prog 4 #[.slice A len cap] w fun e w' => e = .returned (.bool true) ∧ Below w.heap.size w w' := by
  have HO := Lib.hid ho
  clear ho
  go_enter Tryd.func4, Tryd.ntmps4
  go_wp2_with fail
  refine (awake_any _ HO.out).mono ?_
  rintro e v ⟨rfl, hb⟩
  have HB := Lib.hid hb
  clear hb
  go_wp2
  go_ret
  exact ⟨rfl, HB.out⟩

set_option maxRecDepth 10000 in
set_option maxHeartbeats 3200000 in
theorem decodes_in (A : Option Addr) (len cap : Nat) (xs : List Int) (w : World) (ho : Ops w) (hx : BySl w A len cap xs) (hl : len ≤ 4000) :
    Calls Tryd.prog 4 #[.slice A len cap] w fun e w' => e = .returned (.bool true) ∧ Below w.heap.size w w' := by
  obtain ⟨i0, hi0, hz0, hz1, hz2⟩ := info_parts u8_info
  have hp := ho.pos
  have HO := Lib.hid ho
  have HX := Lib.hid hx
  have hcap := hx.hcap
  have hle := hx.hle
  unfold maxLen at hcap
  clear ho hx
  go_enter Tryd.func4, Tryd.ntmps4
  go_wp2_with fail
  refine (awake_any _ HO.out).mono ?_
  rintro e v ⟨rfl, hb⟩
  have HB := Lib.hid hb
  clear hb
  go_wp2_with (
    at_builtin
    refine wpList_ap (w := v.alloc (.cells #[] 5)) rfl (.tmp 17) (.tmp 18) _ rfl v.heap.size 5 i0 _ 1 Tryd.underlying22 hi0 hz0 hz1 hz2 rfl (.slice (some ⟨v.heap.size, 0, none⟩) 0 0) 0 [] rfl
      (own_new v) A len cap (xs.map (Value.int .u8)) rfl ((HX.out.below HB.out).sl.below (Below.box _ _)) HX.out.hnone (one_cell xs) (by simp only [maxLen]; omega) (by omega) (by simp) len (xs.map (Value.int .u8)) (by omega) rfl ?_
    intro A4 cap4 u4 hc1 hc2 hown4 hsl4 hb4)
  have hB4 : Below v.heap.size v u4 := ((Below.refl _ _).alloc (Nat.le_refl _) (.cells #[] 5)).trans hb4
  have HB4 := Lib.hid (HB.out.trans (hB4.mono HB.out.size))
  have hby4 : BySl u4 A4 len cap4 xs := BySl.of_own hown4 HX.out.isB
  have HBY4 := Lib.hid hby4
  clear hc1 hc2 hown4 hsl4 hb4 hB4 hby4
  refine (decode_any A4 len cap4 xs u4 (HO.out.below HB4.out hp) HBY4.out (by omega)).mono ?_
  rintro e v1 ⟨hb1, ⟨a, b', hd, ha, rfl⟩ | ⟨hd, Ad, ld, cd, Af, lf, cf, Ac, lc, cc, rfl, hIm⟩⟩
  · have HB1 := Lib.hid (HB4.out.trans (hb1.mono HB4.out.size))
    have HD := Lib.hid hd
    have hne : (a != 0) = true := by simpa using ha
    have HA := Lib.hid ha
    clear hb1 hd ha HB4 HBY4 HB
    go_upto_region 6 with fail
    have hP : PB (v1.alloc (.cells #[.int .i64 0, .int .i64 0, .int .i64 0, .slice none 0 0, .slice none 0 0, .slice none 0 0] 26)) v1.heap.size (.int .i64 0) (.int .i64 0) (.int .i64 0) (.slice none 0 0) (.slice none 0 0) (.slice none 0 0) := heap_alloc_new v1 _
    have hB := HB1.out.alloc HB1.out.size (.cells #[.int .i64 0, .int .i64 0, .int .i64 0, .slice none 0 0, .slice none 0 0, .slice none 0 0] 26)
    revert hP hB
    generalize v1.alloc (.cells #[.int .i64 0, .int .i64 0, .int .i64 0, .slice none 0 0, .slice none 0 0, .slice none 0 0] 26) = U
    generalize v1.heap.size = g1
    intro hP hB
    have HP := Lib.hid hP
    have HBU := Lib.hid hB
    clear hP hB
    go_wp2_with fail
    refine (decode_ref A len cap xs U (HX.out.below HBU.out) hl).mono ?_
    rintro e v2 ⟨hb2, hcs⟩
    have he : e = .returned (.tuple #[.agg #[.int .i64 0, .int .i64 0, .int .i64 0, .slice none 0 0, .slice none 0 0, .slice none 0 0], .int .i64 a, .int .i64 b']) := by
      rcases hcs with ⟨a1, b1, hd, _, rfl⟩ | ⟨hd, _⟩
      · rw [HD.out] at hd
        simp only [Prod.mk.injEq] at hd
        rw [← hd.1, ← hd.2]
      · rw [HD.out] at hd
        simp only [Prod.mk.injEq] at hd
        exact absurd hd.1 HA.out
    subst he
    have HP2 := Lib.hid (HP.out.keep hb2)
    have HB2 := Lib.hid (HBU.out.trans (hb2.mono HBU.out.size))
    clear hcs hb2 HP HBU
    go_upto_region 7 with fail
    have hQ : PB (v2.alloc (.cells #[.int .i64 0, .int .i64 0, .int .i64 0, .slice none 0 0, .slice none 0 0, .slice none 0 0] 26)) v2.heap.size (.int .i64 0) (.int .i64 0) (.int .i64 0) (.slice none 0 0) (.slice none 0 0) (.slice none 0 0) := heap_alloc_new v2 _
    have hP := PB.keep HP2.out (Below.box v2 (.cells #[.int .i64 0, .int .i64 0, .int .i64 0, .slice none 0 0, .slice none 0 0, .slice none 0 0] 26))
    have hB := HB2.out.alloc HB2.out.size (.cells #[.int .i64 0, .int .i64 0, .int .i64 0, .slice none 0 0, .slice none 0 0, .slice none 0 0] 26)
    revert hQ hP hB
    generalize v2.alloc (.cells #[.int .i64 0, .int .i64 0, .int .i64 0, .slice none 0 0, .slice none 0 0, .slice none 0 0] 26) = U2
    generalize v2.heap.size = g2
    intro hQ hP hB
    have c0 := hP.c0
    have c1 := hP.c1
    have c2 := hP.c2
    have c3 := hP.c3
    have c4 := hP.c4
    have c5 := hP.c5
    have d0 := hQ.c0
    have d1 := hQ.c1
    have d2 := hQ.c2
    have d3 := hQ.c3
    have d4 := hQ.c4
    have d5 := hQ.c5
    have HB3 := Lib.hid hB
    have hSR := rsame_any 0 0 0 none 0 0 none 0 0 none 0 0 0 0 0 none 0 0 none 0 0 none 0 0 Im.P0 Im.P0 U2 (ImAt.nil _) (ImAt.nil _) rfl rfl rfl rfl rfl rfl
    rw [Im.same_self] at hSR
    have HSR := Lib.hid hSR
    clear hP hQ hB hSR
    go_wp2_with fail
    refine HSR.out.mono ?_
    rintro e v3 ⟨rfl, hb3⟩
    have HB4 := Lib.hid (HB3.out.trans (hb3.mono HB3.out.size))
    clear hb3 c0 c1 c2 c3 c4 c5 d0 d1 d2 d3 d4 d5
    go_wp2
    go_ret
    exact ⟨rfl, HB4.out⟩
  · have HB1 := Lib.hid (HB4.out.trans (hb1.mono HB4.out.size))
    have hok := Im.Ok.of HX.out.isB hd
    have HCK := Lib.hid (Im.chk_pic hok HX.out.isB)
    have HEN := Lib.hid (Im.enc_pic hok HX.out.isB)
    have HD := Lib.hid hd
    have HI1 := Lib.hid hIm
    have HM := Lib.hid (show (Im.pic xs).mem = Im.num xs 5 1 ∧ (Im.pic xs).stk = Im.num xs 6 1 ∧ (Im.pic xs).inp = Im.num xs 7 1 from ⟨rfl, rfl, rfl⟩)
    obtain ⟨y5, hy5⟩ : ∃ y, Im.num xs 5 1 = y := ⟨_, rfl⟩
    obtain ⟨y6, hy6⟩ : ∃ y, Im.num xs 6 1 = y := ⟨_, rfl⟩
    obtain ⟨y7, hy7⟩ : ∃ y, Im.num xs 7 1 = y := ⟨_, rfl⟩
    have HY := Lib.hid (show Im.num xs 5 1 = y5 ∧ Im.num xs 6 1 = y6 ∧ Im.num xs 7 1 = y7 from ⟨hy5, hy6, hy7⟩)
    rw [hy5, hy6, hy7] at HM ⊢
    clear hb1 hd hIm hok HB4 HBY4 HB hy5 hy6 hy7
    go_upto_region 6 with fail
    have hP : PB (v1.alloc (.cells #[.int .i64 y5, .int .i64 y6, .int .i64 y7, .slice Ad ld cd, .slice Af lf cf, .slice Ac lc cc] 26)) v1.heap.size (.int .i64 y5) (.int .i64 y6) (.int .i64 y7) (.slice Ad ld cd) (.slice Af lf cf) (.slice Ac lc cc) := heap_alloc_new v1 _
    have hB := HB1.out.alloc HB1.out.size (.cells #[.int .i64 y5, .int .i64 y6, .int .i64 y7, .slice Ad ld cd, .slice Af lf cf, .slice Ac lc cc] 26)
    have hI := HI1.out.below (Below.box v1 (.cells #[.int .i64 y5, .int .i64 y6, .int .i64 y7, .slice Ad ld cd, .slice Af lf cf, .slice Ac lc cc] 26))
    revert hP hB hI
    generalize v1.alloc (.cells #[.int .i64 y5, .int .i64 y6, .int .i64 y7, .slice Ad ld cd, .slice Af lf cf, .slice Ac lc cc] 26) = U
    generalize v1.heap.size = g1
    intro hP hB hI
    have HP := Lib.hid hP
    have HBU := Lib.hid hB
    have HIU := Lib.hid hI
    clear hP hB hI HI1
    go_wp2_with fail
    refine (decode_ref A len cap xs U (HX.out.below HBU.out) hl).mono ?_
    rintro e v2 ⟨hb2, hcs⟩
    have he : ∃ Ad' ld' cd' Af' lf' cf' Ac' lc' cc', e = .returned (.tuple #[.agg #[.int .i64 y5, .int .i64 y6, .int .i64 y7, .slice Ad' ld' cd', .slice Af' lf' cf', .slice Ac' lc' cc'], .int .i64 0, .int .i64 0]) ∧ ImAt v2 Ad' ld' cd' Af' lf' cf' Ac' lc' cc' (Im.pic xs) := by
      rcases hcs with ⟨a1, b1, hd, ha, rfl⟩ | ⟨_, Ad', ld', cd', Af', lf', cf', Ac', lc', cc', rfl, hIm⟩
      · rw [HD.out] at hd
        simp only [Prod.mk.injEq] at hd
        exact absurd hd.1.symm ha
      · rw [HY.out.1, HY.out.2.1, HY.out.2.2]
        exact ⟨Ad', ld', cd', Af', lf', cf', Ac', lc', cc', rfl, hIm⟩
    obtain ⟨Ad', ld', cd', Af', lf', cf', Ac', lc', cc', rfl, hIm⟩ := he
    have HP2 := Lib.hid (HP.out.keep hb2)
    have HB2 := Lib.hid (HBU.out.trans (hb2.mono HBU.out.size))
    have HI2 := Lib.hid (HIU.out.below hb2)
    have HJ2 := Lib.hid hIm
    clear hcs hb2 HP HBU HIU hIm
    go_upto_region 7 with fail
    have hQ : PB (v2.alloc (.cells #[.int .i64 y5, .int .i64 y6, .int .i64 y7, .slice Ad' ld' cd', .slice Af' lf' cf', .slice Ac' lc' cc'] 26)) v2.heap.size (.int .i64 y5) (.int .i64 y6) (.int .i64 y7) (.slice Ad' ld' cd') (.slice Af' lf' cf') (.slice Ac' lc' cc') := heap_alloc_new v2 _
    have hP := PB.keep HP2.out (Below.box v2 (.cells #[.int .i64 y5, .int .i64 y6, .int .i64 y7, .slice Ad' ld' cd', .slice Af' lf' cf', .slice Ac' lc' cc'] 26))
    have hB := HB2.out.alloc HB2.out.size (.cells #[.int .i64 y5, .int .i64 y6, .int .i64 y7, .slice Ad' ld' cd', .slice Af' lf' cf', .slice Ac' lc' cc'] 26)
    have hI := HI2.out.below (Below.box v2 (.cells #[.int .i64 y5, .int .i64 y6, .int .i64 y7, .slice Ad' ld' cd', .slice Af' lf' cf', .slice Ac' lc' cc'] 26))
    have hJ := HJ2.out.below (Below.box v2 (.cells #[.int .i64 y5, .int .i64 y6, .int .i64 y7, .slice Ad' ld' cd', .slice Af' lf' cf', .slice Ac' lc' cc'] 26))
    revert hQ hP hB hI hJ
    generalize v2.alloc (.cells #[.int .i64 y5, .int .i64 y6, .int .i64 y7, .slice Ad' ld' cd', .slice Af' lf' cf', .slice Ac' lc' cc'] 26) = U2
    generalize v2.heap.size = g2
    intro hQ hP hB hI hJ
    have c0 := hP.c0
    have c1 := hP.c1
    have c2 := hP.c2
    have c3 := hP.c3
    have c4 := hP.c4
    have c5 := hP.c5
    have d0 := hQ.c0
    have d1 := hQ.c1
    have d2 := hQ.c2
    have d3 := hQ.c3
    have d4 := hQ.c4
    have d5 := hQ.c5
    have HB3 := Lib.hid hB
    have HP3 := Lib.hid hP
    have HI3 := Lib.hid hI
    have hSR := rsame_any y5 y6 y7 Ad ld cd Af lf cf Ac lc cc y5 y6 y7 Ad' ld' cd' Af' lf' cf' Ac' lc' cc' (Im.pic xs) (Im.pic xs) U2 hI hJ HM.out.1 HM.out.2.1 HM.out.2.2 HM.out.1 HM.out.2.1 HM.out.2.2
    rw [Im.same_self] at hSR
    have HSR := Lib.hid hSR
    clear hP hQ hB hSR hI hJ
    go_wp2_with fail
    refine HSR.out.mono ?_
    rintro e v3 ⟨rfl, hb3⟩
    have HB4 := Lib.hid (HB3.out.trans (hb3.mono HB3.out.size))
    have HP4 := Lib.hid (HP3.out.keep hb3)
    have HI4 := Lib.hid (HI3.out.below hb3)
    clear hb3 c0 c1 c2 c3 c4 c5 d0 d1 d2 d3 d4 d5
    have c0 := HP4.out.c0
    have c1 := HP4.out.c1
    have c2 := HP4.out.c2
    have c3 := HP4.out.c3
    have c4 := HP4.out.c4
    have c5 := HP4.out.c5
    have hEP := encode_any y5 y6 y7 Ad ld cd Af lf cf Ac lc cc (Im.pic xs) v3 (HO.out.below HB4.out hp) HI4.out HM.out.1 HM.out.2.1 HM.out.2.2
    rw [HCK.out, Im.out_ok HCK.out, HEN.out] at hEP
    have HEP := Lib.hid hEP
    clear hEP
    go_wp2_with fail
    refine HEP.out.mono ?_
    rintro e v4 ⟨A5, n5, cap5, rfl, hby5, hb5⟩
    have HB5 := Lib.hid (HB4.out.trans (hb5.mono HB4.out.size))
    have hcv1 := by_str hby5
    have hcv2 := by_str (HX.out.below HB5.out)
    obtain ⟨S, hS⟩ : ∃ S, strOfNums xs = S := ⟨_, rfl⟩
    rw [hS] at hcv1 hcv2
    have hbe : (S.toList == S.toList) = true := by simp
    clear hS hby5 hb5 c0 c1 c2 c3 c4 c5
    go_wp2
    go_ret
    exact ⟨rfl, HB5.out⟩

theorem decodes_walk (A : Option Addr) (len cap : Nat) (xs : List Int) (w : World) (ho : Ops w) (hx : BySl w A len cap xs) :
    Calls Tryd.prog 4 #[.slice A len cap] w fun e w' => e = .returned (.bool true) ∧ Below w.heap.size w w' := by
  have hc := hx.hcap
  have hle := hx.hle
  unfold maxLen at hc
  rcases Nat.lt_or_ge 4000 len with h | h
  · exact decodes_out A len cap w ho (by omega) h
  · exact decodes_in A len cap xs w ho hx h
end Go.Proofs.YtjadiijjahjjoaaDoor
