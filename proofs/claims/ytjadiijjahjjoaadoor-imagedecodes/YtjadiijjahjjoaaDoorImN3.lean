/-
  The reference's Encode.
-/
import Derived.Test.YtjadiijjahjjoaaDoorImN2
namespace Go.Proofs.YtjadiijjahjjoaaDoor
open Go.RowKit

set_option maxHeartbeats 800000 in
theorem rencode_bad (mem stk inp : Int) (Ad : Option Addr) (ld cd : Nat) (Af : Option Addr) (lf cf : Nat) (Ac : Option Addr) (lc cc : Nat) (p : Im.Pic) (w : World) (hi : ImAt w Ad ld cd Af lf cf Ac lc cc p) (e0 : p.mem = mem) (e1 : p.stk = stk) (e2 : p.inp = inp) (hlc : lc ≤ 1000000) (hlf : lf ≤ 1000000) (hld : ld ≤ 1000000) (hc : Im.chk p ≠ 0) :
    Calls Tryd.prog 12 #[.agg #[.int .i64 mem, .int .i64 stk, .int .i64 inp, .slice Ad ld cd, .slice Af lf cf, .slice Ac lc cc]] w fun e w' => e = .returned (.tuple #[.slice none 0 0, .int .i64 (Im.chk p)]) ∧ Below w.heap.size w w' := by
  have hne : (Im.chk p != 0) = true := by simpa using hc
  have HCK := Lib.hid (rcheck_any mem stk inp Ad ld cd Af lf cf Ac lc cc p _ (hi.below (Below.box w (.cells #[.int .i64 mem, .int .i64 stk, .int .i64 inp, .slice Ad ld cd, .slice Af lf cf, .slice Ac lc cc] 26))) e0 e1 e2 hlc hlf hld)
  clear hi hc
  go_enter Tryd.func12, Tryd.ntmps12
  go_wp2_with fail
  refine HCK.out.mono ?_
  rintro e v ⟨rfl, hb⟩
  have HB := Lib.hid ((Below.box w (.cells #[.int .i64 mem, .int .i64 stk, .int .i64 inp, .slice Ad ld cd, .slice Af lf cf, .slice Ac lc cc] 26)).trans (hb.mono (by simp)))
  clear hb
  go_wp2
  go_ret2
  exact ⟨rfl, HB.out⟩

theorem u8_quo (x : Int) (h0 : 0 ≤ x) (h1 : x < 65536) : IntKind.u8.wrap (x.tdiv 256) = x / 256 ∧ IntKind.u8.wrap (x.tmod 256) = x % 256 := by
  rw [IntKind.wrap_u8, IntKind.wrap_u8, Int.tdiv_eq_ediv_of_nonneg h0, Int.tmod_eq_emod_of_nonneg h0]; omega

theorem i64_quo (x : Int) (h0 : 0 ≤ x) (h1 : x < 65536) : IntKind.i64.wrap (x.tdiv 256) = x.tdiv 256 := by
  rw [Int.tdiv_eq_ediv_of_nonneg h0]
  rw [IntKind.wrap_i64]; omega
theorem step_ap {P : Program} {w : World} {ops : Array Oper} {o : Oper} {a : Act} {K : Act → World → Prop} {Q : Exit → Act → World → Prop} {E : Prop} (hgd : o.guard = none) (s x : Operand) (t : TypeId)
    (ho : o.op = .call { callee := .builtin .append, args := #[s, x], argTypes := #[t, t] })
    (base : Nat) (e : TypeId) (i : TypeInfo) (z : Value) (bytes : Nat) (ht : P.underlying t = some (.slice e)) (hi : P.info? e = some i) (hz : i.zero = some z)
    (hsize : i.size = 1) (hby : i.bytes = bytes) (hzs : z.cells.size = 1)
    (v : Value) (n : Nat) (xs : List Value) (hs : a.eval s = v) (hown : w.ownsRow base e 1 v n xs)
    (ad : Addr) (m c : Nat) (news : List Value) (hx : a.eval x = .slice (some ad) m c) (hr : Sl w (some ad) m news) (h1 : ∀ u ∈ news, u.oneCell' = true)
    (h63 : n + m ≤ maxLen) (hbytes : (n + m) * bytes ≤ 140737488355328) (hbase : base ≤ w.heap.size) (N : Nat) (L : List Value) (hN : n + m = N) (hL : xs ++ news = L)
    (h : ∀ A' cap' w', w'.ownsRow base e 1 (.slice A' N cap') N L → Below base w w' → K (a.put o.dst (.slice A' N cap')) w') :
    if Region.wanted o (yielded ops a.tmps) = true then Oper.wp P o a w K Q else E := by
  subst hN hL
  have hw : Region.wanted o (yielded ops a.tmps) = true := by simp [Region.wanted, hgd]
  rw [if_pos hw]
  obtain ⟨_, _, _, _, _, _, hk⟩ := Sl.of_own hown
  have hcells : ∀ j u, news[j]? = some u → w.cell? (ad.add j) = some u := fun j u hu => by
    rcases Nat.eq_zero_or_pos m with h0 | h0
    · have hn : news = [] := List.eq_nil_of_length_eq_zero (hr.1.trans h0)
      subst hn
      simp at hu
    · obtain ⟨b, o', he, _, hc⟩ := hr.2 h0
      injection he with he
      subst he
      exact hc j u hu
  obtain ⟨v', w', hrun, h2, h3, _, _⟩ := run_append_own_at (P := P) w base t o.type e i z 1 bytes ht hi hz hsize hby hzs (by omega) v n xs hown ad m c news (by rw [hr.1]; omega) hcells h1 h63 hbytes hbase
  have h4 := (Below.refl base w).grown h3 hbase hk
  obtain ⟨A', cap', rfl, hc1, hc2, hsl, _⟩ := Sl.of_own h2
  unfold Oper.wp execOp
  simp only [ho, resolve, invoke, builtin, Sem.run_bind, Sem.run_pure, Result.andThen_ok, List.map_toArray, List.map_cons, List.map_nil, hs, hx, hrun]
  exact h A' cap' w' h2 h4

theorem k2_below {W v : World} {B : Nat} {a1 a2 : Addr} {x y : Value} (hb : Below B W v) (h1 : a1.block < B) (h2 : a2.block < B) (h : W.cell? a1 = some x ∧ W.cell? a2 = some y) : v.cell? a1 = some x ∧ v.cell? a2 = some y :=
  ⟨(World.cell?_of_block (hb.block _ h1)).trans h.1, (World.cell?_of_block (hb.block _ h2)).trans h.2⟩

set_option maxRecDepth 10000 in
set_option maxHeartbeats 8000000 in
theorem rencode_ok (mem stk inp : Int) (Ad : Option Addr) (ld cd : Nat) (Af : Option Addr) (lf cf : Nat) (Ac : Option Addr) (lc cc : Nat) (p : Im.Pic) (w : World) (hi : ImAt w Ad ld cd Af lf cf Ac lc cc p) (e0 : p.mem = mem) (e1 : p.stk = stk) (e2 : p.inp = inp) (hlc : lc ≤ 1000000) (hlf : lf ≤ 1000000) (hld : ld ≤ 1000000) (hc : Im.chk p = 0) :
    Calls Tryd.prog 12 #[.agg #[.int .i64 mem, .int .i64 stk, .int .i64 inp, .slice Ad ld cd, .slice Af lf cf, .slice Ac lc cc]] w fun e w' => ∃ A n cap, e = .returned (.tuple #[.slice A n cap, .int .i64 0]) ∧ BySl w' A n cap (Im.enc p) ∧ Below w.heap.size w w' := by
  obtain ⟨i0, hi0, hz0, hz1, hz2⟩ := info_parts u8_info
  have HCK : Calls Tryd.prog 23 #[.agg #[.int .i64 mem, .int .i64 stk, .int .i64 inp, .slice Ad ld cd, .slice Af lf cf, .slice Ac lc cc]] (w.alloc (.cells #[.int .i64 mem, .int .i64 stk, .int .i64 inp, .slice Ad ld cd, .slice Af lf cf, .slice Ac lc cc] 26)) fun e w' => e = .returned (.int .i64 0) ∧ Below (w.alloc (.cells #[.int .i64 mem, .int .i64 stk, .int .i64 inp, .slice Ad ld cd, .slice Af lf cf, .slice Ac lc cc] 26)).heap.size (w.alloc (.cells #[.int .i64 mem, .int .i64 stk, .int .i64 inp, .slice Ad ld cd, .slice Af lf cf, .slice Ac lc cc] 26)) w' := by
    have := rcheck_any mem stk inp Ad ld cd Af lf cf Ac lc cc p _ (hi.below (Below.box w (.cells #[.int .i64 mem, .int .i64 stk, .int .i64 inp, .slice Ad ld cd, .slice Af lf cf, .slice Ac lc cc] 26))) e0 e1 e2 hlc hlf hld
    rwa [hc] at this
  have HCK := Lib.hid HCK
  obtain ⟨hCn, hbad, hfl⟩ := Im.chk_zero hc
  have HBAD := Lib.hid hbad
  have hdl := Lib.hid hi.d.hlen
  have hfL := Lib.hid hi.f.hlen
  have hcl := Lib.hid hi.c.hlen
  have HENC := Lib.hid (Im.isB_enc hCn hi.d.isB hbad)
  obtain ⟨m1, m2, m3, m4, m5, m6, m7⟩ := hCn
  rw [e0] at m1 m4
  rw [e1] at m2
  rw [e2] at m3
  rw [hdl.out] at m4
  rw [hfL.out] at m5
  rw [hcl.out] at m6 m7
  have HPP := Lib.hid m7
  have HIM := Lib.hid hi
  have f0 : IntKind.u8.wrap mem = mem := u8_small (by omega) (by omega)
  have f1 : IntKind.u8.wrap stk = stk := u8_small (by omega) (by omega)
  have f2 : IntKind.u8.wrap inp = inp := u8_small (by omega) (by omega)
  have f3 : IntKind.u8.wrap (ld : Int) = ld := u8_small (by omega) (by omega)
  have f4 : IntKind.u8.wrap (lf : Int) = lf := u8_small (by omega) (by omega)
  have hld' : ld ≤ 64 := by omega
  have hlf' : lf ≤ 16 := by omega
  have hlc' : lc ≤ 256 := by omega
  have hlf1 : 1 ≤ lf := by omega
  have hlc1 : 1 ≤ lc := by omega
  have hfr : Im.front p = [82, 66, 54, 52, 1, mem, stk, inp, ld] ++ p.ds ++ [(lf : Int)] := by unfold Im.front; rw [e0, e1, e2, hdl.out, hfL.out]
  have HFR := Lib.hid hfr
  obtain ⟨bf, of, rfl, hbf, hcf⟩ := hi.f.mem (by omega)
  obtain ⟨bc, oc, rfl, hbc, hcc⟩ := hi.c.mem (by omega)
  have HCF := Lib.hid hcf
  have HBF := Lib.hid hbf
  have HCC := Lib.hid hcc
  have HBC := Lib.hid hbc
  have HRG := Lib.hid hi.c.rng
  have H0 := Lib.hid (Below.box w (.cells #[.int .i64 mem, .int .i64 stk, .int .i64 inp, .slice Ad ld cd, .slice (some ⟨bf, of, none⟩) lf cf, .slice (some ⟨bc, oc, none⟩) lc cc] 26))
  have b3 : (w.alloc (.cells #[.int .i64 mem, .int .i64 stk, .int .i64 inp, .slice Ad ld cd, .slice (some ⟨bf, of, none⟩) lf cf, .slice (some ⟨bc, oc, none⟩) lc cc] 26)).cell? ⟨w.heap.size, 3, none⟩ = some (.slice Ad ld cd) := by simp
  have b4 : (w.alloc (.cells #[.int .i64 mem, .int .i64 stk, .int .i64 inp, .slice Ad ld cd, .slice (some ⟨bf, of, none⟩) lf cf, .slice (some ⟨bc, oc, none⟩) lc cc] 26)).cell? ⟨w.heap.size, 4, none⟩ = some (.slice (some ⟨bf, of, none⟩) lf cf) := by simp
  have b5 : (w.alloc (.cells #[.int .i64 mem, .int .i64 stk, .int .i64 inp, .slice Ad ld cd, .slice (some ⟨bf, of, none⟩) lf cf, .slice (some ⟨bc, oc, none⟩) lc cc] 26)).cell? ⟨w.heap.size, 5, none⟩ = some (.slice (some ⟨bc, oc, none⟩) lc cc) := by simp
  have b0 : (w.alloc (.cells #[.int .i64 mem, .int .i64 stk, .int .i64 inp, .slice Ad ld cd, .slice (some ⟨bf, of, none⟩) lf cf, .slice (some ⟨bc, oc, none⟩) lc cc] 26)).cell? ⟨w.heap.size, 0, none⟩ = some (.int .i64 mem) := by simp
  have b1 : (w.alloc (.cells #[.int .i64 mem, .int .i64 stk, .int .i64 inp, .slice Ad ld cd, .slice (some ⟨bf, of, none⟩) lf cf, .slice (some ⟨bc, oc, none⟩) lc cc] 26)).cell? ⟨w.heap.size, 1, none⟩ = some (.int .i64 stk) := by simp
  have b2 : (w.alloc (.cells #[.int .i64 mem, .int .i64 stk, .int .i64 inp, .slice Ad ld cd, .slice (some ⟨bf, of, none⟩) lf cf, .slice (some ⟨bc, oc, none⟩) lc cc] 26)).cell? ⟨w.heap.size, 2, none⟩ = some (.int .i64 inp) := by simp
  have G0 := Lib.hid b0
  have G1 := Lib.hid b1
  have G2 := Lib.hid b2
  have G3 := Lib.hid b3
  have G4 := Lib.hid b4
  have G5 := Lib.hid b5
  clear b0 b1 b2 b3 b4 b5 hcf hbf hcc hbc hi hbad hfl m1 m2 m3 m4 m5 m6 m7 hfr hc e0 e1 e2
  go_enter Tryd.func12, Tryd.ntmps12
  go_wp2_with fail
  refine HCK.out.mono ?_
  rintro e v ⟨rfl, hb⟩
  have hbv : Below (w.heap.size + 1) (w.alloc (.cells #[.int .i64 mem, .int .i64 stk, .int .i64 inp, .slice Ad ld cd, .slice (some ⟨bf, of, none⟩) lf cf, .slice (some ⟨bc, oc, none⟩) lc cc] 26)) v := hb.mono (by simp)
  have c0 := cells_below hbv G0.out (by simp)
  have c1 := cells_below hbv G1.out (by simp)
  have c2 := cells_below hbv G2.out (by simp)
  have c3 := cells_below hbv G3.out (by simp)
  have c4 := cells_below hbv G4.out (by simp)
  have HV := Lib.hid hbv
  have hvz : w.heap.size < v.heap.size := by have := hb.size; simp at this; omega
  clear hb hbv
  go_upto_region 5 with fail
  have hown0 := own_lit v [.int .u8 82, .int .u8 66, .int .u8 54, .int .u8 52, .int .u8 1, .int .u8 mem, .int .u8 stk, .int .u8 inp, .int .u8 ld] 5 (by simp [maxLen])
  have HO0 := Lib.hid (Joins.ownsRow_le (base' := w.heap.size + 1) hown0 (by omega))
  have HW0 := Lib.hid (HV.out.alloc (by omega) (.cells #[.int .u8 82, .int .u8 66, .int .u8 54, .int .u8 52, .int .u8 1, .int .u8 mem, .int .u8 stk, .int .u8 inp, .int .u8 ld] 5))
  have HI1 := Lib.hid ((HIM.out.below H0.out).below (HW0.out.mono (by simp)))
  clear hown0
  go_upto_region 6 with (
    at_builtin
    refine wpList_ap (w := v.alloc (.cells #[.int .u8 82, .int .u8 66, .int .u8 54, .int .u8 52, .int .u8 1, .int .u8 mem, .int .u8 stk, .int .u8 inp, .int .u8 ld] 5)) rfl (.tmp 29) (.tmp 31) _ rfl (w.heap.size + 1) 5 i0 _ 1 Tryd.underlying22 hi0 hz0 hz1 hz2 rfl (.slice (some ⟨v.heap.size, 0, none⟩) 9 9) 9 _ rfl
      HO0.out Ad ld cd (p.ds.map (Value.int .u8)) rfl HI1.out.d.sl HI1.out.d.hnone (one_cell p.ds) (by simp only [maxLen]; omega) (by omega) (by simp; omega) (9 + ld) (([82, 66, 54, 52, 1, mem, stk, inp, (ld : Int)] ++ p.ds).map (Value.int .u8)) rfl (by simp) ?_
    intro A2 cap2 w2 hc1 hc2 hown2 hsl2 hb2)
  have hb2' := HW0.out.trans hb2
  have d4 := cells_below hb2' G4.out (by simp)
  have HB2 := Lib.hid hb2'
  have HO2 := Lib.hid hown2
  clear hb2' hown2 hsl2 hc1 hc2 hb2 c0 c1 c2 c3 c4
  have hlt : w.heap.size < w2.heap.size := by have := HB2.out.size; simp at this; omega
  go_upto_region 7 with (
    at_builtin
    refine wpList_ap (w := w2.alloc (.cells #[.int .u8 lf] 5)) rfl (.tmp 33) (.tmp 38) _ rfl (w.heap.size + 1) 5 i0 _ 1 Tryd.underlying22 hi0 hz0 hz1 hz2 rfl (.slice A2 (9 + ld) cap2) (9 + ld) _ rfl
      (HO2.out.alloc _) (some ⟨w2.heap.size, 0, none⟩) 1 1 [.int .u8 lf] rfl (Sl.new w2 [.int .u8 lf] 5) (fun e => by cases e) (one_cell [(lf : Int)]) (by simp only [maxLen]; omega) (by omega) (by simp; omega) (10 + ld) ((Im.front p).map (Value.int .u8)) (by omega) (by rw [HFR.out]; simp) ?_
    intro A3 cap3 w3 hc1 hc2 hown3 hsl3 hb3)
  have hb3' := (HB2.out.alloc (by omega) (.cells #[.int .u8 lf] 5)).trans hb3
  have HB3 := Lib.hid hb3'
  have HO3 := Lib.hid hown3
  clear hb3' hown3 hsl3 hc1 hc2 hb3 HO0 HO2 HW0 HB2 HI1 HV d4
  clear hlt
  go_wp2
  go_loopw [5, 6] (fun b i wr => ∃ k : Nat, k ≤ lf ∧ i = .int .i64 k ∧ (∃ A c, b = .slice A (10 + ld + 2 * k) c ∧ wr.ownsRow (w.heap.size + 1) 5 1 (.slice A (10 + ld + 2 * k) c) (10 + ld + 2 * k) ((Im.front p ++ (p.fs.take k).flatMap Im.two).map (Value.int .u8))) ∧ Below (w.heap.size + 1) (w.alloc (.cells #[.int .i64 mem, .int .i64 stk, .int .i64 inp, .slice Ad ld cd, .slice (some ⟨bf, of, none⟩) lf cf, .slice (some ⟨bc, oc, none⟩) lc cc] 26)) wr) (fun _ i _ => lf - (intOf i).toNat)
  case atStart => exact ⟨0, by omega, rfl, ⟨A3, cap3, rfl, by simpa using HO3.out⟩, HB3.out⟩
  case round =>
    obtain ⟨k, hk, rfl, ⟨A, c, rfl, hown⟩, hbr⟩ := hrel
    have c4 := cells_below hbr G4.out (by simp)
    have c5 := cells_below hbr G5.out (by simp)
    have HR := Lib.hid hbr
    have HO := Lib.hid hown
    have hsz : w.heap.size + 1 ≤ wr.heap.size := by have := hbr.size; simp at this; omega
    clear hbr hown
    by_cases hlt : k < lf
    · have hkf : k < p.fs.length := by have := hfL.out; omega
      have ck : wr.cell? ⟨bf, of + k, none⟩ = some (.int .i64 (p.fs.getD k 0)) := cells_below HR.out (cells_below H0.out (HCF.out k hlt) HBF.out) (Nat.lt_succ_of_lt HBF.out)
      have hki : (k : Int) < lf := by omega
      have hz : ∃ z, p.fs.getD k 0 = z := ⟨_, rfl⟩
      obtain ⟨z, hz⟩ := hz
      rw [hz] at ck
      have z0 : 0 ≤ z := by rw [← hz]; exact HPP.out.nonneg hkf
      have z1 : z < 65536 := by
        have h1 := HPP.out.lt hkf
        rw [hz] at h1
        omega
      obtain ⟨q0, q1⟩ := u8_quo z z0 z1
      have q2 := i64_quo z z0 z1
      have hnx : Im.front p ++ (p.fs.take k).flatMap Im.two ++ Im.two z = Im.front p ++ (p.fs.take (k + 1)).flatMap Im.two := by
        rw [Im.two_take _ _ hkf, hz, List.append_assoc]
      have HNX := Lib.hid hnx
      have HKF := Lib.hid hkf
      clear hnx hz hkf
      have hS0 : wr.cell? ⟨w.heap.size, 4, none⟩ = some (.slice (some ⟨bf, of, none⟩) lf cf) ∧ wr.cell? ⟨bf, of + k, none⟩ = some (.int .i64 z) := ⟨c4, ck⟩
      have HS0 := Lib.hid hS0
      have hBa : Below (w.heap.size + 1) wr (wr.alloc (.cells #[.int .u8 (z / 256), .int .u8 (z % 256)] 5)).drew := ((Below.refl _ _).alloc hsz _).drew
      have HBA := Lib.hid hBa
      have hSl : Sl (wr.alloc (.cells #[.int .u8 (z / 256), .int .u8 (z % 256)] 5)).drew (some ⟨wr.heap.size, 0, none⟩) 2 [.int .u8 (z / 256), .int .u8 (z % 256)] := Sl.new wr [.int .u8 (z / 256), .int .u8 (z % 256)] 5
      have HSL := Lib.hid hSl
      have HOA := Lib.hid ((HO.out.alloc (.cells #[.int .u8 (z / 256), .int .u8 (z % 256)] 5)).drew)
      have hbl : bf < w.heap.size + 1 := by have := HBF.out; omega
      clear hS0 hBa hSl
      go_wp2_with fail
      go_region_held3 (fun W => W.cell? ⟨w.heap.size, 4, none⟩ = some (.slice (some ⟨bf, of, none⟩) lf cf) ∧ W.cell? ⟨bf, of + k, none⟩ = some (.int .i64 z))
        (first
          | with_reducible exact HS0.out
          | with_reducible exact k2_below hb9 (Nat.lt_succ_self _) hbl (k2_below HBA.out (Nat.lt_succ_self _) hbl HS0.out)
          | with_reducible exact k2_below HBA.out (Nat.lt_succ_self _) hbl HS0.out
          | exact HS0.out
          | exact k2_below HBA.out (Nat.lt_succ_self _) hbl HS0.out)
        ((refine step_ap (w := (wr.alloc (.cells #[.int .u8 (z / 256), .int .u8 (z % 256)] 5)).drew) rfl (.tmp 47) (.tmp 62) 22 rfl (w.heap.size + 1) 5 i0 _ 1 Tryd.underlying22 hi0 hz0 hz1 hz2 rfl (.slice A (10 + ld + 2 * k) c) (10 + ld + 2 * k) _ rfl HOA.out ⟨wr.heap.size, 0, none⟩ 2 2 [.int .u8 (z / 256), .int .u8 (z % 256)] rfl HSL.out (one_cell [z / 256, z % 256]) (by simp only [maxLen]; omega) (by omega) (by simp; omega) (10 + ld + 2 * (k + 1)) ((Im.front p ++ (p.fs.take (k + 1)).flatMap Im.two).map (Value.int .u8)) (by omega) (by rw [← HNX.out]; simp [Im.two]) ?_; intro A9 c9 w9 ho9 hb9))
      go_wp2
      go_roundw
      case rel =>
        exact ⟨k + 1, by omega, by go_num, ⟨A9, c9, rfl, ho9⟩, (HR.out.trans HBA.out).trans hb9⟩
      case measure => simp [intOf]; omega
    · have hkl : k = lf := by omega
      have htk : p.fs.take k = p.fs := List.take_of_length_le (by have := hfL.out; omega)
      rw [htk] at HO
      have hn1 : ∃ n1, 10 + ld + 2 * k = n1 := ⟨_, rfl⟩
      obtain ⟨n1, hn1⟩ := hn1
      have hn2 : n1 ≤ 200 := by omega
      rw [hn1] at HO
      have hki : ¬ (k : Int) < lf := by omega
      obtain ⟨q0, q1⟩ := u8_quo (lc : Int) (by omega) (by omega)
      have q2 := i64_quo (lc : Int) (by omega) (by omega)
      have hhd : Im.front p ++ p.fs.flatMap Im.two ++ [(lc : Int) / 256, (lc : Int) % 256] = Im.head p := by
        unfold Im.head Im.front; rw [hcl.out]; simp [Im.two]
      have HHD := Lib.hid hhd
      have HN1 := Lib.hid hn1
      have HSZ := Lib.hid hsz
      clear hhd hn1 htk hkl
      simp only [HN1.out]
      go_upto_region 12 with (
        at_builtin
        refine wpList_ap (w := wr.alloc (.cells #[.int .u8 ((lc : Int) / 256), .int .u8 ((lc : Int) % 256)] 5)) rfl (.tmp 64) (.tmp 75) _ rfl (w.heap.size + 1) 5 i0 _ 1 Tryd.underlying22 hi0 hz0 hz1 hz2 rfl (.slice A n1 c) n1 _ rfl
          (HO.out.alloc _) (some ⟨wr.heap.size, 0, none⟩) 2 2 [.int .u8 ((lc : Int) / 256), .int .u8 ((lc : Int) % 256)] rfl (Sl.new wr [.int .u8 ((lc : Int) / 256), .int .u8 ((lc : Int) % 256)] 5) (fun e => by cases e) (one_cell [(lc : Int) / 256, (lc : Int) % 256]) (by simp only [maxLen]; omega) (by omega) (by simp; omega) (n1 + 2) ((Im.head p).map (Value.int .u8)) rfl (by rw [← HHD.out]; simp) ?_
        intro A4 cap4 w4 hc1 hc2 hown4 hsl4 hb4)
      have HB4 := Lib.hid ((HR.out.alloc HSZ.out _).trans hb4)
      have HO4 := Lib.hid hown4
      clear hown4 hsl4 hc1 hc2 hb4 HO HR c4 c5 q0 q1 q2 hsz hki hlt
      go_wp2
      go_loopw [5, 7] (fun b i wr => ∃ k : Nat, k ≤ lc ∧ i = .int .i64 k ∧ (∃ A c, b = .slice A (n1 + 2 + 12 * k) c ∧ wr.ownsRow (w.heap.size + 1) 5 1 (.slice A (n1 + 2 + 12 * k) c) (n1 + 2 + 12 * k) ((Im.head p ++ (p.cs.take k).flatMap Im.bts5).map (Value.int .u8))) ∧ Below (w.heap.size + 1) (w.alloc (.cells #[.int .i64 mem, .int .i64 stk, .int .i64 inp, .slice Ad ld cd, .slice (some ⟨bf, of, none⟩) lf cf, .slice (some ⟨bc, oc, none⟩) lc cc] 26)) wr) (fun _ i _ => lc - (intOf i).toNat)
      case atStart => exact ⟨0, by omega, rfl, ⟨A4, cap4, rfl, by simpa using HO4.out⟩, HB4.out⟩
      case round =>
        obtain ⟨k, hk, rfl, ⟨A, c, rfl, hown⟩, hbr⟩ := hrel
        have c5 := cells_below hbr G5.out (by simp)
        have HR := Lib.hid hbr
        have HO := Lib.hid hown
        have hsz : w.heap.size + 1 ≤ wr.heap.size := by have := hbr.size; simp at this; omega
        have HSZ := Lib.hid hsz
        clear hbr hown hsz
        by_cases hlt : k < lc
        · have hkc : k < p.cs.length := by have := hcl.out; omega
          have hins := ((HIM.out.below H0.out).c.below (HR.out.mono (by simp)))
          obtain ⟨bc', oc', he', hbc', hcc'⟩ := hins.mem (by omega)
          injection he' with he'
          injection he' with he1 he2 he3
          subst he1 he2
          have hins := hcc' k hlt
          have hm := HRG.out k
          have hI5 : ∃ i, p.cs.getD k Im.z5 = i := ⟨_, rfl⟩
          obtain ⟨⟨op, a, b, c', m⟩, hei⟩ := hI5
          have hbad := HBAD.out k hkc
          rw [hei] at hins hm hbad
          obtain ⟨x0, x1, x2, x3, x4⟩ := hins
          simp only at x0 x1 x2 x3 x4 hm
          have hbad : Cd.bad op a b c' m = -1 := hbad
          have HBD := Lib.hid hbad
          have HM := Lib.hid hm
          have hnx : Im.head p ++ (p.cs.take k).flatMap Im.bts5 ++ Cd.bts op a b c' m = Im.head p ++ (p.cs.take (k + 1)).flatMap Im.bts5 := by
            rw [Im.bts_take _ _ hkc, hei, List.append_assoc]; rfl
          have HNX := Lib.hid hnx
          have hki : (k : Int) < lc := by omega
          clear hei hcc' hm hbad hnx hbc' hkc
          go_wp2_with fail
          refine (rput_ok op a b c' m _ HBD.out HM.out.1 HM.out.2).mono ?_
          rintro e v2 ⟨g, cap, rfl, hby, hb2⟩
          have hb2' : Below (w.heap.size + 1) (w.alloc (.cells #[.int .i64 mem, .int .i64 stk, .int .i64 inp, .slice Ad ld cd, .slice (some ⟨bf, of, none⟩) lf cf, .slice (some ⟨bc, oc, none⟩) lc cc] 26)) v2 := HR.out.trans (hb2.mono HSZ.out)
          have hsl : Sl v2 (some ⟨g, 0, none⟩) 12 ((Cd.bts op a b c' m).map (Value.int .u8)) := ⟨rfl, fun _ => ⟨g, 0, rfl, hby.lt (by show 0 < 12; omega), hby.news⟩⟩
          have hown2 : v2.ownsRow (w.heap.size + 1) 5 1 (.slice A (n1 + 2 + 12 * k) c) (n1 + 2 + 12 * k) ((Im.head p ++ (p.cs.take k).flatMap Im.bts5).map (Value.int .u8)) := own_below HO.out hb2
          have HS2 := Lib.hid hsl
          have HB2 := Lib.hid hb2'
          have HO2 := Lib.hid hown2
          clear hsl hb2' hown2 hby hb2
          go_wp2_with (
            at_builtin
            refine wpList_ap (w := v2) rfl (.tmp 93) (.tmp 94) _ rfl (w.heap.size + 1) 5 i0 _ 1 Tryd.underlying22 hi0 hz0 hz1 hz2 rfl (.slice A (n1 + 2 + 12 * k) c) (n1 + 2 + 12 * k) _ rfl
              HO2.out (some ⟨g, 0, none⟩) 12 cap ((Cd.bts op a b c' m).map (Value.int .u8)) rfl HS2.out (fun e => by cases e) (one_cell _) (by simp only [maxLen]; omega) (by omega) (by have := HB2.out.size; simp at this; omega) (n1 + 2 + 12 * (k + 1)) ((Im.head p ++ (p.cs.take (k + 1)).flatMap Im.bts5).map (Value.int .u8)) (by omega) (by rw [← HNX.out]; simp) ?_
            intro A3 cap3 w3 hc1 hc2 hown3 hsl3 hb3)
          go_roundw
          case rel => exact ⟨k + 1, by omega, by go_num, ⟨A3, cap3, rfl, hown3⟩, HB2.out.trans hb3⟩
          case measure => simp [intOf]; omega
        · have hkl : k = lc := by omega
          have htk : p.cs.take k = p.cs := List.take_of_length_le (by have := hcl.out; omega)
          rw [htk] at HO
          have hki : ¬ (k : Int) < lc := by omega
          clear htk hkl
          go_wp2
          go_ret2
          exact ⟨_, _, _, rfl, BySl.of_own HO.out HENC.out, H0.out.trans (HR.out.mono (by omega))⟩
end Go.Proofs.YtjadiijjahjjoaaDoor
