/-
  The walk of the law on bytes that are cut, or have one more.
-/
import Derived.Test.YtjadiijjahjjoaaDoorImL1
namespace Go.Proofs.YtjadiijjahjjoaaDoor
open Go.RowKit

theorem BySl.take {w : World} {b o len cap n : Nat} {xs : List Int} (h : BySl w (some ⟨b, o, none⟩) len cap xs) (hn : n ≤ len) : BySl w (some ⟨b, o, none⟩) n cap (xs.take n) := by
  have hl := h.hlen
  have hle := h.hle
  refine ⟨by rw [List.length_take]; omega, by omega, h.hcap, (fun e => by cases e), isB_of fun x hx => Im.mem_isB h.isB (List.mem_of_mem_take hx), fun h0 => ?_⟩
  obtain ⟨b', o', e, hlt, hx⟩ := h.mem (by omega)
  simp only [Option.some.injEq, Addr.mk.injEq, and_true] at e
  obtain ⟨rfl, rfl⟩ := e
  refine ⟨b, o, rfl, hlt, fun i hi => ?_⟩
  rw [List.length_take] at hi
  rw [hx i (by omega), List.getD_eq_getElem?_getD, List.getD_eq_getElem?_getD, List.getElem?_take_of_lt (by omega)]

set_option maxRecDepth 10000 in
set_option maxHeartbeats 1600000 in
theorem cuts_out (A : Option Addr) (len cap : Nat) (x m : Int) (w : World) (ho : Ops w) (hl : len ≤ 9223372036854775807) (h : 4000 < len ∨ x < 0 ∨ (len : Int) ≤ x) :
    Calls Tryd.prog 5 #[.slice A len cap, .int .i64 x, .int .u8 m] w fun e w' => e = .returned (.bool true) ∧ Below w.heap.size w w' := by
  have HO := Lib.hid ho
  clear ho
  by_cases h1 : 4000 < len
  · go_enter Tryd.func5, Tryd.ntmps5
    go_wp2_with fail
    refine (awake_any _ HO.out).mono ?_
    rintro e v ⟨rfl, hb⟩
    have HB := Lib.hid hb
    clear hb
    go_wp2
    go_ret
    exact ⟨rfl, HB.out⟩
  · by_cases h2 : x < 0
    · go_enter Tryd.func5, Tryd.ntmps5
      go_wp2_with fail
      refine (awake_any _ HO.out).mono ?_
      rintro e v ⟨rfl, hb⟩
      have HB := Lib.hid hb
      clear hb
      go_wp2
      go_ret
      exact ⟨rfl, HB.out⟩
    · have h3 : (len : Int) ≤ x := by omega
      clear h
      go_enter Tryd.func5, Tryd.ntmps5
      go_wp2_with fail
      refine (awake_any _ HO.out).mono ?_
      rintro e v ⟨rfl, hb⟩
      have HB := Lib.hid hb
      clear hb
      go_wp2
      go_ret
      exact ⟨rfl, HB.out⟩

set_option maxRecDepth 10000 in
set_option maxHeartbeats 3200000 in
theorem cuts_in (b o len cap c : Nat) (m : Int) (xs : List Int) (w : World) (ho : Ops w) (hx : BySl w (some ⟨b, o, none⟩) len cap xs) (hl : len ≤ 4000) (hc : c < len) (m0 : 0 ≤ m) (m1 : m ≤ 255) :
    Calls Tryd.prog 5 #[.slice (some ⟨b, o, none⟩) len cap, .int .i64 c, .int .u8 m] w fun e w' => e = .returned (.bool true) ∧ Below w.heap.size w w' := by
  obtain ⟨i0, hi0, hz0, hz1, hz2⟩ := info_parts u8_info
  have hp := ho.pos
  have HO := Lib.hid ho
  have HX := Lib.hid hx
  have HL := Lib.hid hx.hlen
  have hcap := hx.hcap
  have hle := hx.hle
  unfold maxLen at hcap
  have hci : (c : Int) < len := by omega
  have hcc : (c : Int) ≤ cap := by omega
  clear ho hx
  go_enter Tryd.func5, Tryd.ntmps5
  go_wp2_with fail
  refine (awake_any _ HO.out).mono ?_
  rintro e v ⟨rfl, hb⟩
  have HB := Lib.hid hb
  clear hb
  go_wp2_with fail
  refine (decode_any _ len cap xs v (HO.out.below HB.out hp) (HX.out.below HB.out) (by omega)).mono ?_
  rintro e v2 ⟨hb2, ⟨a, b', hd, ha, rfl⟩ | ⟨hd, Ad, ld, cd, Af, lf, cf, Ac, lc, cc, rfl, hIm⟩⟩
  · have HB2 := Lib.hid (HB.out.trans (hb2.mono HB.out.size))
    have hne : (a != 0) = true := by simpa using ha
    clear hd hb2 ha
    go_wp2
    go_ret
    exact ⟨rfl, HB2.out.alloc HB2.out.size _⟩
  · have HB2 := Lib.hid (HB.out.trans (hb2.mono HB.out.size))
    have hok := Im.Ok.of HX.out.isB hd
    have hcut := Im.dE_ag (Im.agree_take xs c) hok (by rw [List.length_take, HL.out]; omega)
    rw [List.length_take, HL.out, Nat.min_eq_left (by omega), if_pos hc] at hcut
    have hmore := Im.dE_ag (Im.agree_app xs [m]) hok (by rw [List.length_append]; simp)
    rw [List.length_append, HL.out, if_neg (by simp)] at hmore
    have HCUT := Lib.hid hcut
    have HMORE := Lib.hid hmore
    clear hd hb2 hok hIm hcut hmore
    go_wp2_with fail
    refine (decode_any _ c cap (xs.take c) _ (HO.out.below (HB2.out.alloc HB2.out.size _) hp) ((HX.out.below (HB2.out.alloc HB2.out.size _)).take (by omega)) (by omega)).mono ?_
    rintro e v3 ⟨hb3, hcs⟩
    have h3 : e = .returned (.tuple #[.agg #[.int .i64 0, .int .i64 0, .int .i64 0, .slice none 0 0, .slice none 0 0, .slice none 0 0], .int .i64 1, .int .i64 c]) := by
      rcases hcs with ⟨a, b', hd, _, rfl⟩ | ⟨hd, _⟩
      · rw [HCUT.out] at hd
        simp only [Prod.mk.injEq] at hd
        rw [← hd.1, ← hd.2]
      · rw [HCUT.out] at hd
        simp at hd
    subst h3
    have HB3 := Lib.hid ((HB2.out.alloc HB2.out.size (.cells #[.int .i64 (Im.num xs 5 1), .int .i64 (Im.num xs 6 1), .int .i64 (Im.num xs 7 1), .slice Ad ld cd, .slice Af lf cf, .slice Ac lc cc] 26)).trans (hb3.mono (by have := HB2.out.size; simp; omega)))
    clear hcs hb3
    have Z : ∃ U, (v3.alloc (.cells #[.int .i64 0, .int .i64 0, .int .i64 0, .slice none 0 0, .slice none 0 0, .slice none 0 0] 26)) = U := ⟨_, rfl⟩
    obtain ⟨U, hU⟩ := Z
    have HBU : Below w.heap.size w U := by rw [← hU]; exact HB3.out.alloc HB3.out.size _
    have HU := Lib.hid hU
    have HBU := Lib.hid HBU
    clear hU
    go_upto_region 9 with fail
    rw [HU.out]
    go_wp2_with (first
      | (at_builtin
         refine wpList_ap (w := U.alloc (.cells #[] 5)) rfl (.tmp 48) (.tmp 49) _ rfl U.heap.size 5 i0 _ 1 Tryd.underlying22 hi0 hz0 hz1 hz2 rfl (.slice (some ⟨U.heap.size, 0, none⟩) 0 0) 0 [] rfl
           (own_new U) (some ⟨b, o, none⟩) len cap (xs.map (Value.int .u8)) rfl ((HX.out.below HBU.out).sl.below (Below.box _ _)) (fun e => by cases e) (one_cell xs) (by simp only [maxLen]; omega) (by omega) (by simp) len (xs.map (Value.int .u8)) (by omega) rfl ?_
         intro A4 cap4 u4 hc1 hc2 hown4 hsl4 hb4)
      | (at_builtin
         refine wpList_ap (w := u4.alloc (.cells #[.int .u8 m] 5)) rfl (.tmp 50) (.tmp 52) _ rfl U.heap.size 5 i0 _ 1 Tryd.underlying22 hi0 hz0 hz1 hz2 rfl (.slice A4 len cap4) len (xs.map (Value.int .u8)) rfl
           (hown4.alloc _) (some ⟨u4.heap.size, 0, none⟩) 1 1 [.int .u8 m] rfl (Sl.new u4 [.int .u8 m] 5) (fun e => by cases e) (one_cell [m]) (by simp only [maxLen]; omega) (by omega) (by have := hb4.size; simp at this; simp; omega) (len + 1) ((xs ++ [m]).map (Value.int .u8)) rfl (by simp) ?_
         intro A5 cap5 u5 hc3 hc4 hown5 hsl5 hb5))
    have hB5 : Below U.heap.size U u5 := ((Below.refl _ _).alloc (Nat.le_refl _) (.cells #[] 5)).trans (hb4.trans ((Below.refl _ _).alloc (by have := hb4.size; simp at this; omega) (.cells #[.int .u8 m] 5) |>.trans hb5))
    have hBW5 : Below w.heap.size w u5 := HBU.out.trans (hB5.mono HBU.out.size)
    have hby5 : BySl u5 A5 (len + 1) cap5 (xs ++ [m]) := BySl.of_own hown5 (isB_append HX.out.isB (isB_of fun n hn => by simp at hn; omega))
    refine (decode_any A5 (len + 1) cap5 (xs ++ [m]) u5 (HO.out.below hBW5 hp) hby5 (by omega)).mono ?_
    rintro e v6 ⟨hb6, hcs⟩
    have h6 : e = .returned (.tuple #[.agg #[.int .i64 0, .int .i64 0, .int .i64 0, .slice none 0 0, .slice none 0 0, .slice none 0 0], .int .i64 6, .int .i64 len]) := by
      rcases hcs with ⟨a, b', hd, _, rfl⟩ | ⟨hd, _⟩
      · rw [HMORE.out] at hd
        simp only [Prod.mk.injEq] at hd
        rw [← hd.1, ← hd.2]
      · rw [HMORE.out] at hd
        simp at hd
    subst h6
    have HB6 := Lib.hid (hBW5.trans (hb6.mono hBW5.size))
    clear hcs hb6 hBW5 hby5 hB5 hown5 hsl5 hb5 hown4 hsl4 hb4 hc1 hc2 hc3 hc4
    go_wp2
    go_ret
    exact ⟨rfl, HB6.out.alloc HB6.out.size _⟩

theorem cuts_walk (A : Option Addr) (len cap : Nat) (xs : List Int) (x m : Int) (w : World) (ho : Ops w) (hx : BySl w A len cap xs) (m0 : 0 ≤ m) (m1 : m ≤ 255) :
    Calls Tryd.prog 5 #[.slice A len cap, .int .i64 x, .int .u8 m] w fun e w' => e = .returned (.bool true) ∧ Below w.heap.size w w' := by
  have hc := hx.hcap
  have hle := hx.hle
  unfold maxLen at hc
  by_cases h : 4000 < len ∨ x < 0 ∨ (len : Int) ≤ x
  · exact cuts_out A len cap x m w ho (by omega) h
  · obtain ⟨c, rfl⟩ : ∃ c : Nat, x = c := ⟨x.toNat, by omega⟩
    obtain ⟨b, o, rfl, _, _⟩ := hx.mem (by omega)
    exact cuts_in b o len cap c m xs w ho hx (by omega) (by omega) m0 m1
end Go.Proofs.YtjadiijjahjjoaaDoor
