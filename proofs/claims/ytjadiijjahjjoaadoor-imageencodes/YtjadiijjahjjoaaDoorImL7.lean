/-
  The walk of the law on Encode.
-/
import Derived.Test.YtjadiijjahjjoaaDoorImL5
import Derived.Test.YtjadiijjahjjoaaDoorImN3
namespace Go.Proofs.YtjadiijjahjjoaaDoor
open Go.RowKit

theorem Im.same_refl' (p : Im.Pic) : Im.same p p = true := Im.same_eq.2 rfl

/-- The six cells of an image in a block. -/
structure Six (g : Nat) (v : World) (a0 a1 a2 a3 a4 a5 : Value) : Prop where
  c0 : v.cell? ⟨g, 0, none⟩ = some a0
  c1 : v.cell? ⟨g, 1, none⟩ = some a1
  c2 : v.cell? ⟨g, 2, none⟩ = some a2
  c3 : v.cell? ⟨g, 3, none⟩ = some a3
  c4 : v.cell? ⟨g, 4, none⟩ = some a4
  c5 : v.cell? ⟨g, 5, none⟩ = some a5
  sz : g < v.heap.size
theorem Six.below {g : Nat} {v v' : World} {a0 a1 a2 a3 a4 a5 : Value} (h : Six g v a0 a1 a2 a3 a4 a5) (hb : Below v.heap.size v v') : Six g v' a0 a1 a2 a3 a4 a5 := by
  have := h.sz
  have := hb.size
  exact ⟨cells_below hb h.c0 (by omega), cells_below hb h.c1 (by omega), cells_below hb h.c2 (by omega), cells_below hb h.c3 (by omega), cells_below hb h.c4 (by omega), cells_below hb h.c5 (by omega), by omega⟩

set_option maxRecDepth 10000 in
set_option maxHeartbeats 3200000 in
theorem encodes_many (mem stk inp : Int) (Ad : Option Addr) (ld cd : Nat) (Af : Option Addr) (lf cf : Nat) (Ac : Option Addr) (lc cc : Nat) (p : Im.Pic) (w : World) (ho : Ops w) (hi : ImAt w Ad ld cd Af lf cf Ac lc cc p) (e0 : p.mem = mem) (e1 : p.stk = stk) (e2 : p.inp = inp) (hf1 : fewB ld lf lc = false) :
    Calls Tryd.prog 3 #[.agg #[.int .i64 mem, .int .i64 stk, .int .i64 inp, .slice Ad ld cd, .slice Af lf cf, .slice Ac lc cc]] w fun e w' => e = .returned (.bool true) ∧ Below w.heap.size w w' := by
  have hp := ho.pos
  have hB : Below w.heap.size w (w.alloc (.cells #[.int .i64 mem, .int .i64 stk, .int .i64 inp, .slice Ad ld cd, .slice Af lf cf, .slice Ac lc cc] 26)) := Below.box w _
  have HB := Lib.hid hB
  have HO := Lib.hid ho
  have HI := Lib.hid (hi.below hB)
  have HRP := Lib.hid hi.c.rng
  have hT : Six w.heap.size (w.alloc (.cells #[.int .i64 mem, .int .i64 stk, .int .i64 inp, .slice Ad ld cd, .slice Af lf cf, .slice Ac lc cc] 26)) (.int .i64 mem) (.int .i64 stk) (.int .i64 inp) (.slice Ad ld cd) (.slice Af lf cf) (.slice Ac lc cc) := ⟨by simp, by simp, by simp, by simp, by simp, by simp, by simp⟩
  have HT := Lib.hid hT
  have hF1 : ∀ W : World, Calls Tryd.prog 10 #[.agg #[.int .i64 mem, .int .i64 stk, .int .i64 inp, .slice Ad ld cd, .slice Af lf cf, .slice Ac lc cc]] W fun e w' => e = .returned (.bool false) ∧ Below W.heap.size W w' := fun W => by
    have := few_any mem stk inp Ad ld cd Af lf cf Ac lc cc W (Nat.le_trans hi.d.hle hi.d.hcap) (Nat.le_trans hi.f.hle hi.f.hcap) (Nat.le_trans hi.c.hle hi.c.hcap)
    rwa [hf1] at this
  have HF1 := Lib.hid hF1
  clear hT hF1 hf1 hi ho hB e0 e1 e2
  go_enter Tryd.func3, Tryd.ntmps3
  go_wp2_with fail
  refine (awake_any _ (HO.out.below HB.out hp)).mono ?_
  rintro e v ⟨rfl, hb⟩
  replace HT := Lib.hid (HT.out.below hb)
  replace HI := Lib.hid (HI.out.below hb)
  replace HB := Lib.hid (HB.out.trans (hb.mono HB.out.size))
  clear hb
  have c0 := HT.out.c0
  have c1 := HT.out.c1
  have c2 := HT.out.c2
  have c3 := HT.out.c3
  have c4 := HT.out.c4
  have c5 := HT.out.c5
  go_wp2_with fail
  refine (HF1.out _).mono ?_
  rintro e v1 ⟨rfl, hb⟩
  replace HT := Lib.hid (HT.out.below hb)
  replace HI := Lib.hid (HI.out.below hb)
  replace HB := Lib.hid (HB.out.trans (hb.mono HB.out.size))
  clear c0 c1 c2 c3 c4 c5
  clear hb
  go_wp2
  go_ret
  exact ⟨rfl, HB.out⟩

set_option maxRecDepth 10000 in
set_option maxHeartbeats 3200000 in
theorem encodes_bad (mem stk inp : Int) (Ad : Option Addr) (ld cd : Nat) (Af : Option Addr) (lf cf : Nat) (Ac : Option Addr) (lc cc : Nat) (p : Im.Pic) (w : World) (ho : Ops w) (hi : ImAt w Ad ld cd Af lf cf Ac lc cc p) (e0 : p.mem = mem) (e1 : p.stk = stk) (e2 : p.inp = inp) (hf1 : fewB ld lf lc = true) (hc : Im.chk p ≠ 0) :
    Calls Tryd.prog 3 #[.agg #[.int .i64 mem, .int .i64 stk, .int .i64 inp, .slice Ad ld cd, .slice Af lf cf, .slice Ac lc cc]] w fun e w' => e = .returned (.bool true) ∧ Below w.heap.size w w' := by
  have hp := ho.pos
  have hB : Below w.heap.size w (w.alloc (.cells #[.int .i64 mem, .int .i64 stk, .int .i64 inp, .slice Ad ld cd, .slice Af lf cf, .slice Ac lc cc] 26)) := Below.box w _
  have HB := Lib.hid hB
  have HO := Lib.hid ho
  have HI := Lib.hid (hi.below hB)
  have HRP := Lib.hid hi.c.rng
  have hT : Six w.heap.size (w.alloc (.cells #[.int .i64 mem, .int .i64 stk, .int .i64 inp, .slice Ad ld cd, .slice Af lf cf, .slice Ac lc cc] 26)) (.int .i64 mem) (.int .i64 stk) (.int .i64 inp) (.slice Ad ld cd) (.slice Af lf cf) (.slice Ac lc cc) := ⟨by simp, by simp, by simp, by simp, by simp, by simp, by simp⟩
  have HT := Lib.hid hT
  have hF1 : ∀ W : World, Calls Tryd.prog 10 #[.agg #[.int .i64 mem, .int .i64 stk, .int .i64 inp, .slice Ad ld cd, .slice Af lf cf, .slice Ac lc cc]] W fun e w' => e = .returned (.bool true) ∧ Below W.heap.size W w' := fun W => by
    have := few_any mem stk inp Ad ld cd Af lf cf Ac lc cc W (Nat.le_trans hi.d.hle hi.d.hcap) (Nat.le_trans hi.f.hle hi.f.hcap) (Nat.le_trans hi.c.hle hi.c.hcap)
    rwa [hf1] at this
  have HF1 := Lib.hid hF1
  have hfl : lc ≤ 1000000 ∧ lf ≤ 1000000 ∧ ld ≤ 1000000 := by
    simp [fewB] at hf1; omega
  have hEP : ∀ W : World, Ops W → ImAt W Ad ld cd Af lf cf Ac lc cc p → Calls Tryd.prog 11 #[.agg #[.int .i64 mem, .int .i64 stk, .int .i64 inp, .slice Ad ld cd, .slice Af lf cf, .slice Ac lc cc]] W fun e w' => ∃ A n cap, e = .returned (.tuple #[.slice A n cap, .int .i64 (Im.chk p)]) ∧ BySl w' A n cap ([]) ∧ Below W.heap.size W w' := fun W h0 h1 => by
    have := encode_any mem stk inp Ad ld cd Af lf cf Ac lc cc p W h0 h1 e0 e1 e2
    rwa [Im.out_bad hc] at this
  have HEP := Lib.hid hEP
  have hER : ∀ W : World, ImAt W Ad ld cd Af lf cf Ac lc cc p → Calls Tryd.prog 12 #[.agg #[.int .i64 mem, .int .i64 stk, .int .i64 inp, .slice Ad ld cd, .slice Af lf cf, .slice Ac lc cc]] W fun e w' => e = .returned (.tuple #[.slice none 0 0, .int .i64 (Im.chk p)]) ∧ Below W.heap.size W w' := fun W h1 => rencode_bad mem stk inp Ad ld cd Af lf cf Ac lc cc p W h1 e0 e1 e2 hfl.1 hfl.2.1 hfl.2.2 hc
  have HER := Lib.hid hER
  have hz : ∃ z, Im.chk p = z := ⟨_, rfl⟩
  obtain ⟨z, hz⟩ := hz
  rw [hz] at HEP HER hc
  have hne : (z != 0) = true := by simpa using hc
  clear hEP hER hc hz hfl
  clear hT hF1 hf1 hi ho hB e0 e1 e2
  go_enter Tryd.func3, Tryd.ntmps3
  go_wp2_with fail
  refine (awake_any _ (HO.out.below HB.out hp)).mono ?_
  rintro e v ⟨rfl, hb⟩
  replace HT := Lib.hid (HT.out.below hb)
  replace HI := Lib.hid (HI.out.below hb)
  replace HB := Lib.hid (HB.out.trans (hb.mono HB.out.size))
  clear hb
  have c0 := HT.out.c0
  have c1 := HT.out.c1
  have c2 := HT.out.c2
  have c3 := HT.out.c3
  have c4 := HT.out.c4
  have c5 := HT.out.c5
  go_wp2_with fail
  refine (HF1.out _).mono ?_
  rintro e v1 ⟨rfl, hb⟩
  replace HT := Lib.hid (HT.out.below hb)
  replace HI := Lib.hid (HI.out.below hb)
  replace HB := Lib.hid (HB.out.trans (hb.mono HB.out.size))
  clear c0 c1 c2 c3 c4 c5
  clear hb
  have c0 := HT.out.c0
  have c1 := HT.out.c1
  have c2 := HT.out.c2
  have c3 := HT.out.c3
  have c4 := HT.out.c4
  have c5 := HT.out.c5
  go_wp2_with fail
  refine (HEP.out _ (HO.out.below HB.out hp) HI.out).mono ?_
  rintro e v2 ⟨A, n, cap, rfl, hby, hb⟩
  replace HT := Lib.hid (HT.out.below hb)
  replace HI := Lib.hid (HI.out.below hb)
  replace HB := Lib.hid (HB.out.trans (hb.mono HB.out.size))
  clear c0 c1 c2 c3 c4 c5
  have HBY := Lib.hid hby
  clear hb hby
  have c0 := HT.out.c0
  have c1 := HT.out.c1
  have c2 := HT.out.c2
  have c3 := HT.out.c3
  have c4 := HT.out.c4
  have c5 := HT.out.c5
  go_wp2_with fail
  refine (HER.out _ HI.out).mono ?_
  rintro e v3 ⟨rfl, hb⟩
  replace HT := Lib.hid (HT.out.below hb)
  replace HI := Lib.hid (HI.out.below hb)
  replace HBY := Lib.hid (HBY.out.below hb)
  replace HB := Lib.hid (HB.out.trans (hb.mono HB.out.size))
  clear c0 c1 c2 c3 c4 c5
  clear hb
  have hcv1 := by_str HBY.out
  have hcv2 := by_str (BySl.nil (w := v3))
  have hS : ∃ S, strOfNums [] = S := ⟨_, rfl⟩
  obtain ⟨S, hS⟩ := hS
  rw [hS] at hcv1 hcv2
  clear hS
  have hbe : (S.toList == S.toList) = true := by simp
  go_wp2
  go_ret
  exact ⟨rfl, HB.out⟩

set_option maxRecDepth 10000 in
set_option maxHeartbeats 3200000 in
theorem encodes_ok (mem stk inp : Int) (Ad : Option Addr) (ld cd : Nat) (Af : Option Addr) (lf cf : Nat) (Ac : Option Addr) (lc cc : Nat) (p : Im.Pic) (w : World) (ho : Ops w) (hi : ImAt w Ad ld cd Af lf cf Ac lc cc p) (e0 : p.mem = mem) (e1 : p.stk = stk) (e2 : p.inp = inp) (hf1 : fewB ld lf lc = true) (hc : Im.chk p = 0) :
    Calls Tryd.prog 3 #[.agg #[.int .i64 mem, .int .i64 stk, .int .i64 inp, .slice Ad ld cd, .slice Af lf cf, .slice Ac lc cc]] w fun e w' => e = .returned (.bool true) ∧ Below w.heap.size w w' := by
  have hp := ho.pos
  have hB : Below w.heap.size w (w.alloc (.cells #[.int .i64 mem, .int .i64 stk, .int .i64 inp, .slice Ad ld cd, .slice Af lf cf, .slice Ac lc cc] 26)) := Below.box w _
  have HB := Lib.hid hB
  have HO := Lib.hid ho
  have HI := Lib.hid (hi.below hB)
  have HRP := Lib.hid hi.c.rng
  have hT : Six w.heap.size (w.alloc (.cells #[.int .i64 mem, .int .i64 stk, .int .i64 inp, .slice Ad ld cd, .slice Af lf cf, .slice Ac lc cc] 26)) (.int .i64 mem) (.int .i64 stk) (.int .i64 inp) (.slice Ad ld cd) (.slice Af lf cf) (.slice Ac lc cc) := ⟨by simp, by simp, by simp, by simp, by simp, by simp, by simp⟩
  have HT := Lib.hid hT
  have hF1 : ∀ W : World, Calls Tryd.prog 10 #[.agg #[.int .i64 mem, .int .i64 stk, .int .i64 inp, .slice Ad ld cd, .slice Af lf cf, .slice Ac lc cc]] W fun e w' => e = .returned (.bool true) ∧ Below W.heap.size W w' := fun W => by
    have := few_any mem stk inp Ad ld cd Af lf cf Ac lc cc W (Nat.le_trans hi.d.hle hi.d.hcap) (Nat.le_trans hi.f.hle hi.f.hcap) (Nat.le_trans hi.c.hle hi.c.hcap)
    rwa [hf1] at this
  have HF1 := Lib.hid hF1
  have hfl : lc ≤ 1000000 ∧ lf ≤ 1000000 ∧ ld ≤ 1000000 := by
    simp [fewB] at hf1; omega
  have hEP : ∀ W : World, Ops W → ImAt W Ad ld cd Af lf cf Ac lc cc p → Calls Tryd.prog 11 #[.agg #[.int .i64 mem, .int .i64 stk, .int .i64 inp, .slice Ad ld cd, .slice Af lf cf, .slice Ac lc cc]] W fun e w' => ∃ A n cap, e = .returned (.tuple #[.slice A n cap, .int .i64 0]) ∧ BySl w' A n cap (Im.enc p) ∧ Below W.heap.size W w' := fun W h0 h1 => by
    have := encode_any mem stk inp Ad ld cd Af lf cf Ac lc cc p W h0 h1 e0 e1 e2
    rwa [hc, Im.out_ok hc] at this
  have HEP := Lib.hid hEP
  have hER : ∀ W : World, ImAt W Ad ld cd Af lf cf Ac lc cc p → Calls Tryd.prog 12 #[.agg #[.int .i64 mem, .int .i64 stk, .int .i64 inp, .slice Ad ld cd, .slice Af lf cf, .slice Ac lc cc]] W fun e w' => ∃ A n cap, e = .returned (.tuple #[.slice A n cap, .int .i64 0]) ∧ BySl w' A n cap (Im.enc p) ∧ Below W.heap.size W w' := fun W h1 => rencode_ok mem stk inp Ad ld cd Af lf cf Ac lc cc p W h1 e0 e1 e2 hfl.1 hfl.2.1 hfl.2.2 hc
  have HER := Lib.hid hER
  have hpe := Im.pic_enc HRP.out
  have hok := Im.ok_enc hc HRP.out
  have HPE := Lib.hid hpe
  have n0 : Im.num (Im.enc p) 5 1 = mem := (congrArg Im.Pic.mem hpe).trans e0
  have n1 : Im.num (Im.enc p) 6 1 = stk := (congrArg Im.Pic.stk hpe).trans e1
  have n2 : Im.num (Im.enc p) 7 1 = inp := (congrArg Im.Pic.inp hpe).trans e2
  have hDC : ∀ (A : Option Addr) (n cap : Nat) (W : World), Ops W → BySl W A n cap (Im.enc p) → Calls Tryd.prog 13 #[.slice A n cap] W fun e w' => ∃ Ad' ld' cd' Af' lf' cf' Ac' lc' cc', e = .returned (.tuple #[.agg #[.int .i64 mem, .int .i64 stk, .int .i64 inp, .slice Ad' ld' cd', .slice Af' lf' cf', .slice Ac' lc' cc'], .int .i64 0, .int .i64 0]) ∧ ImAt w' Ad' ld' cd' Af' lf' cf' Ac' lc' cc' p ∧ Below W.heap.size W w' := fun A n cap W h0 h1 => by
    have hdE := hok.dE h1.isB
    have hln : n ≤ 1000000000000 := by
      have h2 := h1.hlen
      have h3 := (Im.enc_len (p := p))
      rw [Im.enc_sAt, Im.enc_nk, Im.head_len] at h3
      have h4 := hi.d.hlen
      have h5 := hi.f.hlen
      have h6 := hi.c.hlen
      omega
    refine (decode_any A n cap _ W h0 h1 hln).mono ?_
    rintro e w' ⟨hb, ⟨a, b', hd, ha, rfl⟩ | ⟨_, Ad', ld', cd', Af', lf', cf', Ac', lc', cc', rfl, hIm⟩⟩
    · rw [hdE] at hd
      exact absurd (congrArg Prod.fst hd).symm ha
    · rw [hpe] at hIm
      rw [n0, n1, n2]
      exact ⟨Ad', ld', cd', Af', lf', cf', Ac', lc', cc', rfl, hIm, hb⟩
  have HDC := Lib.hid hDC
  have hSR : ∀ (Ad' : Option Addr) (ld' cd' : Nat) (Af' : Option Addr) (lf' cf' : Nat) (Ac' : Option Addr) (lc' cc' : Nat) (W : World), ImAt W Ad ld cd Af lf cf Ac lc cc p → ImAt W Ad' ld' cd' Af' lf' cf' Ac' lc' cc' p → Calls Tryd.prog 14 #[.agg #[.int .i64 mem, .int .i64 stk, .int .i64 inp, .slice Ad ld cd, .slice Af lf cf, .slice Ac lc cc], .agg #[.int .i64 mem, .int .i64 stk, .int .i64 inp, .slice Ad' ld' cd', .slice Af' lf' cf', .slice Ac' lc' cc']] W fun e w' => e = .returned (.bool true) ∧ Below W.heap.size W w' := fun Ad' ld' cd' Af' lf' cf' Ac' lc' cc' W h1 h2 => by
    have := rsame_any mem stk inp Ad ld cd Af lf cf Ac lc cc mem stk inp Ad' ld' cd' Af' lf' cf' Ac' lc' cc' p p W h1 h2 e0 e1 e2 e0 e1 e2
    rwa [Im.same_refl'] at this
  have hSM : ∀ (Ad' : Option Addr) (ld' cd' : Nat) (Af' : Option Addr) (lf' cf' : Nat) (Ac' : Option Addr) (lc' cc' : Nat) (W : World), ImAt W Ad ld cd Af lf cf Ac lc cc p → ImAt W Ad' ld' cd' Af' lf' cf' Ac' lc' cc' p → Calls Tryd.prog 15 #[.agg #[.int .i64 mem, .int .i64 stk, .int .i64 inp, .slice Ad ld cd, .slice Af lf cf, .slice Ac lc cc], .agg #[.int .i64 mem, .int .i64 stk, .int .i64 inp, .slice Ad' ld' cd', .slice Af' lf' cf', .slice Ac' lc' cc']] W fun e w' => e = .returned (.bool true) ∧ Below W.heap.size W w' := fun Ad' ld' cd' Af' lf' cf' Ac' lc' cc' W h1 h2 => by
    have := same_any mem stk inp Ad ld cd Af lf cf Ac lc cc mem stk inp Ad' ld' cd' Af' lf' cf' Ac' lc' cc' p p W h1 h2 e0 e1 e2 e0 e1 e2
    rwa [Im.same_refl'] at this
  have HSR := Lib.hid hSR
  have HSM := Lib.hid hSM
  clear hEP hER hDC hSR hSM hc hpe hok n0 n1 n2 hfl
  clear hT hF1 hf1 hi ho hB e0 e1 e2
  go_enter Tryd.func3, Tryd.ntmps3
  go_wp2_with fail
  refine (awake_any _ (HO.out.below HB.out hp)).mono ?_
  rintro e v ⟨rfl, hb⟩
  replace HT := Lib.hid (HT.out.below hb)
  replace HI := Lib.hid (HI.out.below hb)
  replace HB := Lib.hid (HB.out.trans (hb.mono HB.out.size))
  clear hb
  have c0 := HT.out.c0
  have c1 := HT.out.c1
  have c2 := HT.out.c2
  have c3 := HT.out.c3
  have c4 := HT.out.c4
  have c5 := HT.out.c5
  go_wp2_with fail
  refine (HF1.out _).mono ?_
  rintro e v1 ⟨rfl, hb⟩
  replace HT := Lib.hid (HT.out.below hb)
  replace HI := Lib.hid (HI.out.below hb)
  replace HB := Lib.hid (HB.out.trans (hb.mono HB.out.size))
  clear c0 c1 c2 c3 c4 c5
  clear hb
  have c0 := HT.out.c0
  have c1 := HT.out.c1
  have c2 := HT.out.c2
  have c3 := HT.out.c3
  have c4 := HT.out.c4
  have c5 := HT.out.c5
  go_wp2_with fail
  refine (HEP.out _ (HO.out.below HB.out hp) HI.out).mono ?_
  rintro e v2 ⟨A, n, cap, rfl, hby, hb⟩
  replace HT := Lib.hid (HT.out.below hb)
  replace HI := Lib.hid (HI.out.below hb)
  replace HB := Lib.hid (HB.out.trans (hb.mono HB.out.size))
  clear c0 c1 c2 c3 c4 c5
  have HBY := Lib.hid hby
  clear hb hby
  have c0 := HT.out.c0
  have c1 := HT.out.c1
  have c2 := HT.out.c2
  have c3 := HT.out.c3
  have c4 := HT.out.c4
  have c5 := HT.out.c5
  go_wp2_with fail
  refine (HER.out _ HI.out).mono ?_
  rintro e v3 ⟨A', n', cap', rfl, hby', hb⟩
  replace HT := Lib.hid (HT.out.below hb)
  replace HI := Lib.hid (HI.out.below hb)
  replace HBY := Lib.hid (HBY.out.below hb)
  replace HB := Lib.hid (HB.out.trans (hb.mono HB.out.size))
  clear c0 c1 c2 c3 c4 c5
  have HBY' := Lib.hid hby'
  clear hb hby'
  have hcv1 := by_str HBY.out
  have hcv2 := by_str HBY'.out
  have hS : ∃ S, strOfNums (Im.enc p) = S := ⟨_, rfl⟩
  obtain ⟨S, hS⟩ := hS
  rw [hS] at hcv1 hcv2
  clear hS
  have hbe : (S.toList == S.toList) = true := by simp
  go_wp2_with fail
  refine (HDC.out A n cap _ (HO.out.below HB.out hp) HBY.out).mono ?_
  rintro e v4 ⟨Ad', ld', cd', Af', lf', cf', Ac', lc', cc', rfl, hIm, hb⟩
  have hT2 : Six v4.heap.size (v4.alloc (.cells #[.int .i64 mem, .int .i64 stk, .int .i64 inp, .slice Ad' ld' cd', .slice Af' lf' cf', .slice Ac' lc' cc'] 26)) (.int .i64 mem) (.int .i64 stk) (.int .i64 inp) (.slice Ad' ld' cd') (.slice Af' lf' cf') (.slice Ac' lc' cc') := ⟨by simp, by simp, by simp, by simp, by simp, by simp, by simp⟩
  have hbx : Below v4.heap.size v4 (v4.alloc (.cells #[.int .i64 mem, .int .i64 stk, .int .i64 inp, .slice Ad' ld' cd', .slice Af' lf' cf', .slice Ac' lc' cc'] 26)) := Below.box v4 _
  have HT2 := Lib.hid hT2
  replace HT := Lib.hid ((HT.out.below hb).below hbx)
  replace HI := Lib.hid ((HI.out.below hb).below hbx)
  have HJ := Lib.hid (hIm.below hbx)
  replace HB := Lib.hid ((HB.out.trans (hb.mono HB.out.size)).trans (hbx.mono (HB.out.trans (hb.mono HB.out.size)).size))
  clear hb hbx hIm hT2 hcv1 hcv2 hbe
  have c0 := HT.out.c0
  have c1 := HT.out.c1
  have c2 := HT.out.c2
  have c3 := HT.out.c3
  have c4 := HT.out.c4
  have c5 := HT.out.c5
  have d0 := HT2.out.c0
  have d1 := HT2.out.c1
  have d2 := HT2.out.c2
  have d3 := HT2.out.c3
  have d4 := HT2.out.c4
  have d5 := HT2.out.c5
  go_wp2_with fail
  refine (HSR.out _ _ _ _ _ _ _ _ _ _ HI.out HJ.out).mono ?_
  rintro e v5 ⟨rfl, hb⟩
  replace HT := Lib.hid (HT.out.below hb)
  replace HI := Lib.hid (HI.out.below hb)
  replace HJ := Lib.hid (HJ.out.below hb)
  replace HT2 := Lib.hid (HT2.out.below hb)
  replace HB := Lib.hid (HB.out.trans (hb.mono HB.out.size))
  clear c0 c1 c2 c3 c4 c5
  clear d0 d1 d2 d3 d4 d5
  clear hb
  have c0 := HT.out.c0
  have c1 := HT.out.c1
  have c2 := HT.out.c2
  have c3 := HT.out.c3
  have c4 := HT.out.c4
  have c5 := HT.out.c5
  have d0 := HT2.out.c0
  have d1 := HT2.out.c1
  have d2 := HT2.out.c2
  have d3 := HT2.out.c3
  have d4 := HT2.out.c4
  have d5 := HT2.out.c5
  go_wp2_with fail
  refine (HSM.out _ _ _ _ _ _ _ _ _ _ HI.out HJ.out).mono ?_
  rintro e v6 ⟨rfl, hb⟩
  replace HT := Lib.hid (HT.out.below hb)
  replace HI := Lib.hid (HI.out.below hb)
  replace HJ := Lib.hid (HJ.out.below hb)
  replace HT2 := Lib.hid (HT2.out.below hb)
  replace HB := Lib.hid (HB.out.trans (hb.mono HB.out.size))
  clear c0 c1 c2 c3 c4 c5
  clear d0 d1 d2 d3 d4 d5
  clear hb
  go_wp2
  go_ret
  exact ⟨rfl, HB.out⟩

theorem encodes_walk (mem stk inp : Int) (Ad : Option Addr) (ld cd : Nat) (Af : Option Addr) (lf cf : Nat) (Ac : Option Addr) (lc cc : Nat) (p : Im.Pic) (w : World) (ho : Ops w) (hi : ImAt w Ad ld cd Af lf cf Ac lc cc p) (e0 : p.mem = mem) (e1 : p.stk = stk) (e2 : p.inp = inp) :
    Calls Tryd.prog 3 #[.agg #[.int .i64 mem, .int .i64 stk, .int .i64 inp, .slice Ad ld cd, .slice Af lf cf, .slice Ac lc cc]] w fun e w' => e = .returned (.bool true) ∧ Below w.heap.size w w' := by
  by_cases h1 : fewB ld lf lc = true
  · by_cases h2 : Im.chk p = 0
    · exact encodes_ok mem stk inp Ad ld cd Af lf cf Ac lc cc p w ho hi e0 e1 e2 h1 h2
    · exact encodes_bad mem stk inp Ad ld cd Af lf cf Ac lc cc p w ho hi e0 e1 e2 h1 h2
  · exact encodes_many mem stk inp Ad ld cd Af lf cf Ac lc cc p w ho hi e0 e1 e2 (by simpa using h1)
end Go.Proofs.YtjadiijjahjjoaaDoor
