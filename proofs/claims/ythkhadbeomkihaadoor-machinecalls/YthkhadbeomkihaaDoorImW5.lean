/-
  The contract of head: an image's bytes ahead of its instructions'.
-/
import Derived.Test.YthkhadbeomkihaaDoorImW4
import Derived.Lib.SmallJoins
import Derived.ArgAppend
import Derived.Deep.Cut
namespace Go.Proofs.YthkhadbeomkihaaDoor
set_option maxRecDepth 100000
open Go.RowKit

/-- A literal row, just made. -/
theorem own_lit (w : World) (xs : List Value) (t : TypeId) (hm : xs.length ≤ maxLen) : (w.alloc (.cells xs.toArray t)).ownsRow w.heap.size t 1 (.slice (some ⟨w.heap.size, 0, none⟩) xs.length xs.length) xs.length xs :=
  ⟨by omega, .inr ⟨w.heap.size, xs.length, xs.toArray, rfl, Nat.le_refl _, heap_alloc_new w _, Nat.le_refl _, hm, by simp, by simp⟩⟩
theorem Im.two_take (fs : List Int) (k : Nat) (h : k < fs.length) : (fs.take (k + 1)).flatMap Im.two = (fs.take k).flatMap Im.two ++ Im.two (fs.getD k 0) := by
  rw [List.take_succ_eq_append_getElem h, List.flatMap_append, List.getD_eq_getElem?_getD, List.getElem?_eq_getElem h]
  simp
theorem Im.two_len (fs : List Int) : (fs.flatMap Im.two).length = 2 * fs.length := by
  induction fs with
  | nil => rfl
  | cons a r ih => rw [List.flatMap_cons, List.length_append, ih]; simp [Im.two]; omega
theorem u8_small {x : Int} (h0 : 0 ≤ x) (h1 : x ≤ 255) : IntKind.u8.wrap x = x := by rw [IntKind.wrap_u8]; omega

/-- The bytes up to the functions' places. -/
def Im.front (p : Im.Pic) : List Int := [82, 66, 54, 52, 1, p.mem, p.stk, p.inp, p.ds.length] ++ p.ds ++ [(p.fs.length : Int)]
theorem Im.head_front (p : Im.Pic) : Im.head p = Im.front p ++ p.fs.flatMap Im.two ++ Im.two p.cs.length := rfl
theorem Im.front_len (p : Im.Pic) : (Im.front p).length = 10 + p.ds.length := by simp [Im.front]; omega

set_option maxRecDepth 10000 in
set_option maxHeartbeats 1600000 in
theorem head_any (mem stk inp : Int) (Ad : Option Addr) (ld cd : Nat) (Af : Option Addr) (lf cf : Nat) (Ac : Option Addr) (lc cc : Nat) (p : Im.Pic) (w : World) (hi : ImAt w Ad ld cd Af lf cf Ac lc cc p) (hC : Im.Cnt p) (e0 : p.mem = mem) (e1 : p.stk = stk) (e2 : p.inp = inp) :
    Calls Tryd.prog 43 #[.agg #[.int .i64 mem, .int .i64 stk, .int .i64 inp, .slice Ad ld cd, .slice Af lf cf, .slice Ac lc cc]] w fun e w' => ∃ A n cap, e = .returned (.slice A n cap) ∧ n ≤ 200 ∧ w'.ownsRow (w.heap.size + 1) 5 1 (.slice A n cap) n ((Im.head p).map (Value.int .u8)) ∧ Below w.heap.size w w' := by
  obtain ⟨i0, hi0, hz0, hz1, hz2⟩ := info_parts u8_info
  have hdl := Lib.hid hi.d.hlen
  have hfl := Lib.hid hi.f.hlen
  have hcl := Lib.hid hi.c.hlen
  obtain ⟨m1, m2, m3, m4, m5, m6, m7⟩ := hC
  rw [e0] at m1 m4
  rw [e1] at m2
  rw [e2] at m3
  rw [hdl.out] at m4
  rw [hfl.out] at m5
  rw [hcl.out] at m6 m7
  have HPP := Lib.hid m7
  have HI := Lib.hid hi
  have f0 : IntKind.u8.wrap mem = mem := u8_small (by omega) (by omega)
  have f1 : IntKind.u8.wrap stk = stk := u8_small (by omega) (by omega)
  have f2 : IntKind.u8.wrap inp = inp := u8_small (by omega) (by omega)
  have f3 : IntKind.u8.wrap (ld : Int) = ld := u8_small (by omega) (by omega)
  have f4 : IntKind.u8.wrap (lf : Int) = lf := u8_small (by omega) (by omega)
  have hld : ld ≤ 64 := by omega
  have hlf : lf ≤ 16 := by omega
  have hlc : lc ≤ 256 := by omega
  have hfr : Im.front p = [82, 66, 54, 52, 1, mem, stk, inp, ld] ++ p.ds ++ [(lf : Int)] := by unfold Im.front; rw [e0, e1, e2, hdl.out, hfl.out]
  have HFR := Lib.hid hfr
  have H0 := Lib.hid (Below.box w (.cells #[.int .i64 mem, .int .i64 stk, .int .i64 inp, .slice Ad ld cd, .slice Af lf cf, .slice Ac lc cc] 26))
  have HM := Lib.hid (And.intro m1 (And.intro m2 (And.intro m3 m4)))
  clear m1 m2 m3 m4 m5 m6 m7 hi hfr e0 e1 e2
  have hcv := Joins.run_convert_bytes_const_at (P := Tryd.prog) (w.alloc (.cells #[.int .i64 mem, .int .i64 stk, .int .i64 inp, .slice Ad ld cd, .slice Af lf cf, .slice Ac lc cc] 26)) 22 5 #[.int .u8 82, .int .u8 66, .int .u8 54, .int .u8 52] 4 4 (w.heap.size + 1) (by simp) Tryd.underlying22 Tryd.underlying5
  have B4 : (((w.alloc (.cells #[.int .i64 mem, .int .i64 stk, .int .i64 inp, .slice Ad ld cd, .slice Af lf cf, .slice Ac lc cc] 26)).alloc (.cells #[.int .u8 82, .int .u8 66, .int .u8 54, .int .u8 52] 5 (4, 5))).alloc (.cells #[.int .u8 1, .int .u8 mem, .int .u8 stk, .int .u8 inp, .int .u8 ld] 5)).heap[w.heap.size + 1]? = some (.cells #[.int .u8 82, .int .u8 66, .int .u8 54, .int .u8 52] 5 (4, 5)) := by
    rw [Below.heap_alloc _ _ _ (by simp)]
    have := heap_alloc_new (w.alloc (.cells #[.int .i64 mem, .int .i64 stk, .int .i64 inp, .slice Ad ld cd, .slice Af lf cf, .slice Ac lc cc] 26)) (.cells #[.int .u8 82, .int .u8 66, .int .u8 54, .int .u8 52] 5 (4, 5))
    rwa [World.size_alloc] at this
  have B5 : (((w.alloc (.cells #[.int .i64 mem, .int .i64 stk, .int .i64 inp, .slice Ad ld cd, .slice Af lf cf, .slice Ac lc cc] 26)).alloc (.cells #[.int .u8 82, .int .u8 66, .int .u8 54, .int .u8 52] 5 (4, 5))).alloc (.cells #[.int .u8 1, .int .u8 mem, .int .u8 stk, .int .u8 inp, .int .u8 ld] 5)).heap[w.heap.size + 2]? = some (.cells #[.int .u8 1, .int .u8 mem, .int .u8 stk, .int .u8 inp, .int .u8 ld] 5) := by
    have := heap_alloc_new ((w.alloc (.cells #[.int .i64 mem, .int .i64 stk, .int .i64 inp, .slice Ad ld cd, .slice Af lf cf, .slice Ac lc cc] 26)).alloc (.cells #[.int .u8 82, .int .u8 66, .int .u8 54, .int .u8 52] 5 (4, 5))) (.cells #[.int .u8 1, .int .u8 mem, .int .u8 stk, .int .u8 inp, .int .u8 ld] 5)
    rwa [World.size_alloc, World.size_alloc] at this
  have HB4 := Lib.hid B4
  have HB5 := Lib.hid B5
  clear B4 B5
  go_enter Tryd.func43, Tryd.ntmps43
  go_upto_region 2 with (
    at_builtin
    refine wpList_append_grows (((w.alloc (.cells #[.int .i64 mem, .int .i64 stk, .int .i64 inp, .slice Ad ld cd, .slice Af lf cf, .slice Ac lc cc] 26)).alloc (.cells #[.int .u8 82, .int .u8 66, .int .u8 54, .int .u8 52] 5 (4, 5))).alloc (.cells #[.int .u8 1, .int .u8 mem, .int .u8 stk, .int .u8 inp, .int .u8 ld] 5)) rfl (.tmp 7) (.tmp 21) 22 rfl 5 i0 _ 1 1 Tryd.underlying22 hi0 hz0 hz1 hz2 rfl (by decide)
      (some ⟨w.heap.size + 1, 0, none⟩) 4 4 [.int .u8 82, .int .u8 66, .int .u8 54, .int .u8 52] rfl (fun e => by cases e) rfl (fun b hb j u hu => by
        obtain rfl := Option.some.inj hb
        rw [add_at, Nat.zero_add, cell_of_row _ _ _ _ _ _ HB4.out]; simpa using hu)
      ⟨w.heap.size + 2, 0, none⟩ 5 5 [.int .u8 1, .int .u8 mem, .int .u8 stk, .int .u8 inp, .int .u8 ld] rfl rfl (fun j u hu => by
        rw [add_at, Nat.zero_add, cell_of_row _ _ _ _ _ _ HB5.out]; simpa using hu) (one_cell [1, mem, stk, inp, ld]) (by decide) (by decide) (by decide) ?_
    intro v1 w1 hown1 hgr1)
  obtain ⟨A1, cap1, rfl, hc1, hm1, hsl1, _⟩ := Sl.of_own hown1
  have HO1 := Lib.hid (Joins.ownsRow_le (base' := w.heap.size + 1) hown1 (by simp))
  have HW1 : Below (w.heap.size + 1) (w.alloc (.cells #[.int .i64 mem, .int .i64 stk, .int .i64 inp, .slice Ad ld cd, .slice Af lf cf, .slice Ac lc cc] 26)) w1 := (((Below.refl _ _).alloc (by simp) _).alloc (by simp) _).grown hgr1 (by simp) (fun k hk => by cases hk)
  have G0 : (w.alloc (.cells #[.int .i64 mem, .int .i64 stk, .int .i64 inp, .slice Ad ld cd, .slice Af lf cf, .slice Ac lc cc] 26)).cell? ⟨w.heap.size, 3, none⟩ = some (.slice Ad ld cd) := by simp
  have G4 : (w.alloc (.cells #[.int .i64 mem, .int .i64 stk, .int .i64 inp, .slice Ad ld cd, .slice Af lf cf, .slice Ac lc cc] 26)).cell? ⟨w.heap.size, 4, none⟩ = some (.slice Af lf cf) := by simp
  have G5 : (w.alloc (.cells #[.int .i64 mem, .int .i64 stk, .int .i64 inp, .slice Ad ld cd, .slice Af lf cf, .slice Ac lc cc] 26)).cell? ⟨w.heap.size, 5, none⟩ = some (.slice Ac lc cc) := by simp
  have HG4 := Lib.hid G4
  have HG5 := Lib.hid G5
  have c3 := cells_below HW1 G0 (by simp)
  have c4 := cells_below HW1 G4 (by simp)
  have HI1 := Lib.hid ((HI.out.below H0.out).below (HW1.mono (by simp)))
  have HB1 := Lib.hid HW1
  clear HW1 G0 G4 G5 hown1 hgr1 hsl1 hc1 hm1 HB4 HB5 hcv
  go_upto_region 3 with (
    at_builtin
    refine wpList_ap (w := w1) rfl (.tmp 23) (.tmp 25) _ rfl (w.heap.size + 1) 5 i0 _ 1 Tryd.underlying22 hi0 hz0 hz1 hz2 rfl (.slice A1 9 cap1) 9 _ rfl
      HO1.out Ad ld cd (p.ds.map (Value.int .u8)) rfl HI1.out.d.sl HI1.out.d.hnone (one_cell p.ds) (by simp only [maxLen]; omega) (by omega) (by have := HB1.out.size; simp at this; omega) (9 + ld) (([82, 66, 54, 52, 1, mem, stk, inp, (ld : Int)] ++ p.ds).map (Value.int .u8)) rfl (by simp) ?_
    intro A2 cap2 w2 hc1 hc2 hown2 hsl2 hb2)
  have hb2' := HB1.out.trans hb2
  have d4 := cells_below hb2' HG4.out (by simp)
  have d5 := cells_below hb2' HG5.out (by simp)
  have HB2 := Lib.hid hb2'
  have HO2 := Lib.hid hown2
  clear hb2' hown2 hsl2 hc1 hc2 hb2 c3 c4
  have hlt : w.heap.size < w2.heap.size := by have := HB2.out.size; simp at this; omega
  go_upto_region 4 with (
    at_builtin
    refine wpList_ap (w := w2.alloc (.cells #[.int .u8 lf] 5)) rfl (.tmp 27) (.tmp 32) _ rfl (w.heap.size + 1) 5 i0 _ 1 Tryd.underlying22 hi0 hz0 hz1 hz2 rfl (.slice A2 (9 + ld) cap2) (9 + ld) _ rfl
      (HO2.out.alloc _) (some ⟨w2.heap.size, 0, none⟩) 1 1 [.int .u8 lf] rfl (Sl.new w2 [.int .u8 lf] 5) (fun e => by cases e) (one_cell [(lf : Int)]) (by simp only [maxLen]; omega) (by omega) (by simp; omega) (10 + ld) ((Im.front p).map (Value.int .u8)) (by omega) (by rw [HFR.out]; simp) ?_
    intro A3 cap3 w3 hc1 hc2 hown3 hsl3 hb3)
  have hb3' := (HB2.out.alloc (by omega) (.cells #[.int .u8 lf] 5)).trans hb3
  have d4 := cells_below hb3' HG4.out (by simp)
  have d5 := cells_below hb3' HG5.out (by simp)
  have HB3 := Lib.hid hb3'
  have HO3 := Lib.hid hown3
  clear hb3' hown3 hsl3 hc1 hc2 hb3 HO1 HO2 HB1 HB2 HI1
  clear hlt
  go_wp2
  go_loopw [3, 37] (fun b i wr => ∃ k : Nat, k ≤ lf ∧ i = .int .i64 k ∧ (∃ A c, b = .slice A (10 + ld + 2 * k) c ∧ wr.ownsRow (w.heap.size + 1) 5 1 (.slice A (10 + ld + 2 * k) c) (10 + ld + 2 * k) ((Im.front p ++ (p.fs.take k).flatMap Im.two).map (Value.int .u8))) ∧ Below (w.heap.size + 1) (w.alloc (.cells #[.int .i64 mem, .int .i64 stk, .int .i64 inp, .slice Ad ld cd, .slice Af lf cf, .slice Ac lc cc] 26)) wr) (fun _ i _ => lf - (intOf i).toNat)
  case atStart => exact ⟨0, by omega, rfl, ⟨A3, cap3, rfl, by simpa using HO3.out⟩, HB3.out⟩
  case round =>
    obtain ⟨k, hk, rfl, ⟨A, c, rfl, hown⟩, hbr⟩ := hrel
    have c4 := cells_below hbr HG4.out (by simp)
    have c5 := cells_below hbr HG5.out (by simp)
    have HR := Lib.hid hbr
    have HO := Lib.hid hown
    clear hbr hown d4 d5
    have hsz : w.heap.size + 1 ≤ wr.heap.size := by have := HR.out.size; simp at this; omega
    have HSZ := Lib.hid hsz
    clear hsz
    by_cases hlt : k < lf
    · have hkf : k < p.fs.length := by have := hfl.out; omega
      obtain ⟨bf, of, rfl, hbf, hxf⟩ := ((HI.out.below H0.out).f.below (HR.out.mono (by simp))).mem (by omega)
      have ck := hxf k hlt
      have hz : ∃ z, p.fs.getD k 0 = z := ⟨_, rfl⟩
      obtain ⟨z, hz⟩ := hz
      rw [hz] at ck
      have z0 : 0 ≤ z := by rw [← hz]; exact HPP.out.nonneg hkf
      have z1 : z < 65536 := by
        have h1 := HPP.out.lt_till hkf
        have h2 := HPP.out.till_le hkf
        rw [hz] at h1
        omega
      have hnx : Im.front p ++ (p.fs.take k).flatMap Im.two ++ Im.two z = Im.front p ++ (p.fs.take (k + 1)).flatMap Im.two := by
        rw [Im.two_take _ _ hkf, hz, List.append_assoc]
      have HNX := Lib.hid hnx
      have HZ := Lib.hid hz
      have HKF := Lib.hid hkf
      clear hxf hnx hz hbf hkf
      go_wp2_with fail
      refine (apTwo_any (w.heap.size + 1) A (10 + ld + 2 * k) c (Im.front p ++ (p.fs.take k).flatMap Im.two) z wr HO.out HSZ.out (by omega) z0 z1).mono ?_
      rintro e v ⟨A', c', rfl, hown', hbv⟩
      rw [HNX.out] at hown'
      have HV := Lib.hid (HR.out.trans hbv)
      have HO' := Lib.hid hown'
      clear hbv hown'
      go_wp2
      go_roundw
      case rel => exact ⟨k + 1, by omega, by go_num, ⟨A', c', rfl, HO'.out⟩, HV.out⟩
      case measure => simp [intOf]; omega
    · have hkl : k = lf := by omega
      have HKL := Lib.hid hkl
      have htk : p.fs.take k = p.fs := List.take_of_length_le (by have := hfl.out; omega)
      rw [htk] at HO
      clear htk hkl
      go_wp2_with fail
      refine (apTwo_any (w.heap.size + 1) A (10 + ld + 2 * k) c (Im.front p ++ p.fs.flatMap Im.two) lc wr HO.out HSZ.out (by omega) (by omega) (by omega)).mono ?_
      rintro e v ⟨A', c', rfl, hown', hbv⟩
      have HV := Lib.hid (HR.out.trans hbv)
      have HO' := Lib.hid hown'
      clear hbv hown'
      go_wp2
      go_ret
      refine ⟨A', 10 + ld + 2 * k + 2, c', rfl, by omega, ?_, H0.out.trans (HV.out.mono (by omega))⟩
      have h := HO'.out
      rw [← hcl.out] at h
      exact h
end Go.Proofs.YthkhadbeomkihaaDoor
