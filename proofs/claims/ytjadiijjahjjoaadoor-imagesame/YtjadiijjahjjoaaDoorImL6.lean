/-
  The walk of the law on sameness.
-/
import Derived.Test.YtjadiijjahjjoaaDoorImL5
namespace Go.Proofs.YtjadiijjahjjoaaDoor
open Go.RowKit

theorem Im.same_comm (p q : Im.Pic) : Im.same q p = Im.same p q := by
  rw [Bool.eq_iff_iff, Im.same_eq, Im.same_eq]
  exact ⟨fun h => h.symm, fun h => h.symm⟩
theorem Im.same_refl (p : Im.Pic) : Im.same p p = true := Im.same_eq.2 rfl
theorem Im.enc_inj {p q : Im.Pic} (hm : ∀ i, 0 ≤ (p.cs.getD i Im.z5).m ∧ (p.cs.getD i Im.z5).m < 18446744073709551616) (hm' : ∀ i, 0 ≤ (q.cs.getD i Im.z5).m ∧ (q.cs.getD i Im.z5).m < 18446744073709551616) : Im.enc p = Im.enc q ↔ p = q :=
  ⟨fun h => by rw [← Im.pic_enc hm, h, Im.pic_enc hm'], fun h => by rw [h]⟩

/-- Cells of two boxes. -/
structure Two (w v : World) (a0 a1 a2 a3 a4 a5 k0 k1 k2 k3 k4 k5 : Value) : Prop where
  c0 : v.cell? ⟨w.heap.size, 0, none⟩ = some a0
  c1 : v.cell? ⟨w.heap.size, 1, none⟩ = some a1
  c2 : v.cell? ⟨w.heap.size, 2, none⟩ = some a2
  c3 : v.cell? ⟨w.heap.size, 3, none⟩ = some a3
  c4 : v.cell? ⟨w.heap.size, 4, none⟩ = some a4
  c5 : v.cell? ⟨w.heap.size, 5, none⟩ = some a5
  d0 : v.cell? ⟨w.heap.size + 1, 0, none⟩ = some k0
  d1 : v.cell? ⟨w.heap.size + 1, 1, none⟩ = some k1
  d2 : v.cell? ⟨w.heap.size + 1, 2, none⟩ = some k2
  d3 : v.cell? ⟨w.heap.size + 1, 3, none⟩ = some k3
  d4 : v.cell? ⟨w.heap.size + 1, 4, none⟩ = some k4
  d5 : v.cell? ⟨w.heap.size + 1, 5, none⟩ = some k5
  sz : w.heap.size + 1 < v.heap.size
theorem Two.below {w v v' : World} {a0 a1 a2 a3 a4 a5 k0 k1 k2 k3 k4 k5 : Value} (h : Two w v a0 a1 a2 a3 a4 a5 k0 k1 k2 k3 k4 k5) (hb : Below v.heap.size v v') : Two w v' a0 a1 a2 a3 a4 a5 k0 k1 k2 k3 k4 k5 := by
  have := h.sz
  have := hb.size
  exact ⟨cells_below hb h.c0 (by omega), cells_below hb h.c1 (by omega), cells_below hb h.c2 (by omega), cells_below hb h.c3 (by omega), cells_below hb h.c4 (by omega), cells_below hb h.c5 (by omega),
    cells_below hb h.d0 (by omega), cells_below hb h.d1 (by omega), cells_below hb h.d2 (by omega), cells_below hb h.d3 (by omega), cells_below hb h.d4 (by omega), cells_below hb h.d5 (by omega), by omega⟩

set_option maxRecDepth 10000 in
set_option maxHeartbeats 3200000 in
theorem same_many1 (mem stk inp : Int) (Ad : Option Addr) (ld cd : Nat) (Af : Option Addr) (lf cf : Nat) (Ac : Option Addr) (lc cc : Nat) (mem' stk' inp' : Int) (Ad' : Option Addr) (ld' cd' : Nat) (Af' : Option Addr) (lf' cf' : Nat) (Ac' : Option Addr) (lc' cc' : Nat) (p q : Im.Pic) (w : World) (ho : Ops w) (hi : ImAt w Ad ld cd Af lf cf Ac lc cc p) (hj : ImAt w Ad' ld' cd' Af' lf' cf' Ac' lc' cc' q) (e0 : p.mem = mem) (e1 : p.stk = stk) (e2 : p.inp = inp) (e3 : q.mem = mem') (e4 : q.stk = stk') (e5 : q.inp = inp') (hf1 : fewB ld lf lc = false) :
    Calls Tryd.prog 8 #[.agg #[.int .i64 mem, .int .i64 stk, .int .i64 inp, .slice Ad ld cd, .slice Af lf cf, .slice Ac lc cc], .agg #[.int .i64 mem', .int .i64 stk', .int .i64 inp', .slice Ad' ld' cd', .slice Af' lf' cf', .slice Ac' lc' cc']] w fun e w' => e = .returned (.bool true) ∧ Below w.heap.size w w' := by
  have hp := ho.pos
  have hB : Below w.heap.size w ((w.alloc (.cells #[.int .i64 mem, .int .i64 stk, .int .i64 inp, .slice Ad ld cd, .slice Af lf cf, .slice Ac lc cc] 26)).alloc (.cells #[.int .i64 mem', .int .i64 stk', .int .i64 inp', .slice Ad' ld' cd', .slice Af' lf' cf', .slice Ac' lc' cc'] 26)) := ((Below.refl _ _).alloc (Nat.le_refl _) _).alloc (by simp) _
  have HB := Lib.hid hB
  have HO := Lib.hid ho
  have HI := Lib.hid (hi.below hB)
  have HJ := Lib.hid (hj.below hB)
  have HRP := Lib.hid hi.c.rng
  have HRQ := Lib.hid hj.c.rng
  have HDP := Lib.hid hi.d.isB
  have HDQ := Lib.hid hj.d.isB
  have hT : Two w ((w.alloc (.cells #[.int .i64 mem, .int .i64 stk, .int .i64 inp, .slice Ad ld cd, .slice Af lf cf, .slice Ac lc cc] 26)).alloc (.cells #[.int .i64 mem', .int .i64 stk', .int .i64 inp', .slice Ad' ld' cd', .slice Af' lf' cf', .slice Ac' lc' cc'] 26)) (.int .i64 mem) (.int .i64 stk) (.int .i64 inp) (.slice Ad ld cd) (.slice Af lf cf) (.slice Ac lc cc) (.int .i64 mem') (.int .i64 stk') (.int .i64 inp') (.slice Ad' ld' cd') (.slice Af' lf' cf') (.slice Ac' lc' cc') := ⟨by simp, by simp, by simp, by simp, by simp, by simp, by simp, by simp, by simp, by simp, by simp, by simp, by simp⟩
  have HT := Lib.hid hT
  have hF1 : ∀ W : World, Calls Tryd.prog 10 #[.agg #[.int .i64 mem, .int .i64 stk, .int .i64 inp, .slice Ad ld cd, .slice Af lf cf, .slice Ac lc cc]] W fun e w' => e = .returned (.bool false) ∧ Below W.heap.size W w' := fun W => by
    have := few_any mem stk inp Ad ld cd Af lf cf Ac lc cc W (Nat.le_trans hi.d.hle hi.d.hcap) (Nat.le_trans hi.f.hle hi.f.hcap) (Nat.le_trans hi.c.hle hi.c.hcap)
    rwa [hf1] at this
  have HF1 := Lib.hid hF1
  have hSM : ∀ W : World, ImAt W Ad ld cd Af lf cf Ac lc cc p → ImAt W Ad' ld' cd' Af' lf' cf' Ac' lc' cc' q → Calls Tryd.prog 15 #[.agg #[.int .i64 mem, .int .i64 stk, .int .i64 inp, .slice Ad ld cd, .slice Af lf cf, .slice Ac lc cc], .agg #[.int .i64 mem', .int .i64 stk', .int .i64 inp', .slice Ad' ld' cd', .slice Af' lf' cf', .slice Ac' lc' cc']] W fun e w' => e = .returned (.bool (Im.same p q)) ∧ Below W.heap.size W w' := fun W h1 h2 => same_any mem stk inp Ad ld cd Af lf cf Ac lc cc mem' stk' inp' Ad' ld' cd' Af' lf' cf' Ac' lc' cc' p q W h1 h2 e0 e1 e2 e3 e4 e5
  have hSQ : ∀ W : World, ImAt W Ad ld cd Af lf cf Ac lc cc p → ImAt W Ad' ld' cd' Af' lf' cf' Ac' lc' cc' q → Calls Tryd.prog 15 #[.agg #[.int .i64 mem', .int .i64 stk', .int .i64 inp', .slice Ad' ld' cd', .slice Af' lf' cf', .slice Ac' lc' cc'], .agg #[.int .i64 mem, .int .i64 stk, .int .i64 inp, .slice Ad ld cd, .slice Af lf cf, .slice Ac lc cc]] W fun e w' => e = .returned (.bool (Im.same p q)) ∧ Below W.heap.size W w' := fun W h1 h2 => by
    have := same_any mem' stk' inp' Ad' ld' cd' Af' lf' cf' Ac' lc' cc' mem stk inp Ad ld cd Af lf cf Ac lc cc q p W h2 h1 e3 e4 e5 e0 e1 e2
    rwa [Im.same_comm] at this
  have hSP : ∀ W : World, ImAt W Ad ld cd Af lf cf Ac lc cc p → Calls Tryd.prog 15 #[.agg #[.int .i64 mem, .int .i64 stk, .int .i64 inp, .slice Ad ld cd, .slice Af lf cf, .slice Ac lc cc], .agg #[.int .i64 mem, .int .i64 stk, .int .i64 inp, .slice Ad ld cd, .slice Af lf cf, .slice Ac lc cc]] W fun e w' => e = .returned (.bool true) ∧ Below W.heap.size W w' := fun W h1 => by
    have := same_any mem stk inp Ad ld cd Af lf cf Ac lc cc mem stk inp Ad ld cd Af lf cf Ac lc cc p p W h1 h1 e0 e1 e2 e0 e1 e2
    rwa [Im.same_refl] at this
  have hSR : ∀ W : World, ImAt W Ad ld cd Af lf cf Ac lc cc p → ImAt W Ad' ld' cd' Af' lf' cf' Ac' lc' cc' q → Calls Tryd.prog 14 #[.agg #[.int .i64 mem, .int .i64 stk, .int .i64 inp, .slice Ad ld cd, .slice Af lf cf, .slice Ac lc cc], .agg #[.int .i64 mem', .int .i64 stk', .int .i64 inp', .slice Ad' ld' cd', .slice Af' lf' cf', .slice Ac' lc' cc']] W fun e w' => e = .returned (.bool (Im.same p q)) ∧ Below W.heap.size W w' := fun W h1 h2 => rsame_any mem stk inp Ad ld cd Af lf cf Ac lc cc mem' stk' inp' Ad' ld' cd' Af' lf' cf' Ac' lc' cc' p q W h1 h2 e0 e1 e2 e3 e4 e5
  have hEP : ∀ W : World, Ops W → ImAt W Ad ld cd Af lf cf Ac lc cc p → Calls Tryd.prog 11 #[.agg #[.int .i64 mem, .int .i64 stk, .int .i64 inp, .slice Ad ld cd, .slice Af lf cf, .slice Ac lc cc]] W fun e w' => ∃ A n cap, e = .returned (.tuple #[.slice A n cap, .int .i64 (Im.chk p)]) ∧ BySl w' A n cap (Im.out p) ∧ Below W.heap.size W w' := fun W h0 h1 => encode_any mem stk inp Ad ld cd Af lf cf Ac lc cc p W h0 h1 e0 e1 e2
  have hEQ : ∀ W : World, Ops W → ImAt W Ad' ld' cd' Af' lf' cf' Ac' lc' cc' q → Calls Tryd.prog 11 #[.agg #[.int .i64 mem', .int .i64 stk', .int .i64 inp', .slice Ad' ld' cd', .slice Af' lf' cf', .slice Ac' lc' cc']] W fun e w' => ∃ A n cap, e = .returned (.tuple #[.slice A n cap, .int .i64 (Im.chk q)]) ∧ BySl w' A n cap (Im.out q) ∧ Below W.heap.size W w' := fun W h0 h1 => encode_any mem' stk' inp' Ad' ld' cd' Af' lf' cf' Ac' lc' cc' q W h0 h1 e3 e4 e5
  have HSM := Lib.hid hSM
  have HSQ := Lib.hid hSQ
  have HSP := Lib.hid hSP
  have HSR := Lib.hid hSR
  have HEP := Lib.hid hEP
  have HEQ := Lib.hid hEQ
  clear hT hF1 hSM hSQ hSP hSR hEP hEQ hi hj ho hB e0 e1 e2 e3 e4 e5
  clear hf1
  go_enter Tryd.func8, Tryd.ntmps8
  go_wp2_with fail
  refine (awake_any _ (HO.out.below HB.out hp)).mono ?_
  rintro e v ⟨rfl, hb⟩
  replace HT := Lib.hid (HT.out.below hb)
  replace HB := Lib.hid (HB.out.trans (hb.mono HB.out.size))
  replace HI := Lib.hid (HI.out.below hb)
  replace HJ := Lib.hid (HJ.out.below hb)
  clear hb
  have c0 := HT.out.c0
  have c1 := HT.out.c1
  have c2 := HT.out.c2
  have c3 := HT.out.c3
  have c4 := HT.out.c4
  have c5 := HT.out.c5
  have d0 := HT.out.d0
  have d1 := HT.out.d1
  have d2 := HT.out.d2
  have d3 := HT.out.d3
  have d4 := HT.out.d4
  have d5 := HT.out.d5
  go_wp2_with fail
  refine (HF1.out _).mono ?_
  rintro e v1 ⟨rfl, hb⟩
  replace HT := Lib.hid (HT.out.below hb)
  replace HB := Lib.hid (HB.out.trans (hb.mono HB.out.size))
  replace HI := Lib.hid (HI.out.below hb)
  replace HJ := Lib.hid (HJ.out.below hb)
  clear c0 c1 c2 c3 c4 c5 d0 d1 d2 d3 d4 d5
  clear hb
  go_wp2
  go_ret
  exact ⟨rfl, HB.out⟩

set_option maxRecDepth 10000 in
set_option maxHeartbeats 3200000 in
theorem same_many2 (mem stk inp : Int) (Ad : Option Addr) (ld cd : Nat) (Af : Option Addr) (lf cf : Nat) (Ac : Option Addr) (lc cc : Nat) (mem' stk' inp' : Int) (Ad' : Option Addr) (ld' cd' : Nat) (Af' : Option Addr) (lf' cf' : Nat) (Ac' : Option Addr) (lc' cc' : Nat) (p q : Im.Pic) (w : World) (ho : Ops w) (hi : ImAt w Ad ld cd Af lf cf Ac lc cc p) (hj : ImAt w Ad' ld' cd' Af' lf' cf' Ac' lc' cc' q) (e0 : p.mem = mem) (e1 : p.stk = stk) (e2 : p.inp = inp) (e3 : q.mem = mem') (e4 : q.stk = stk') (e5 : q.inp = inp') (hf1 : fewB ld lf lc = true) (hf2 : fewB ld' lf' lc' = false) :
    Calls Tryd.prog 8 #[.agg #[.int .i64 mem, .int .i64 stk, .int .i64 inp, .slice Ad ld cd, .slice Af lf cf, .slice Ac lc cc], .agg #[.int .i64 mem', .int .i64 stk', .int .i64 inp', .slice Ad' ld' cd', .slice Af' lf' cf', .slice Ac' lc' cc']] w fun e w' => e = .returned (.bool true) ∧ Below w.heap.size w w' := by
  have hp := ho.pos
  have hB : Below w.heap.size w ((w.alloc (.cells #[.int .i64 mem, .int .i64 stk, .int .i64 inp, .slice Ad ld cd, .slice Af lf cf, .slice Ac lc cc] 26)).alloc (.cells #[.int .i64 mem', .int .i64 stk', .int .i64 inp', .slice Ad' ld' cd', .slice Af' lf' cf', .slice Ac' lc' cc'] 26)) := ((Below.refl _ _).alloc (Nat.le_refl _) _).alloc (by simp) _
  have HB := Lib.hid hB
  have HO := Lib.hid ho
  have HI := Lib.hid (hi.below hB)
  have HJ := Lib.hid (hj.below hB)
  have HRP := Lib.hid hi.c.rng
  have HRQ := Lib.hid hj.c.rng
  have HDP := Lib.hid hi.d.isB
  have HDQ := Lib.hid hj.d.isB
  have hT : Two w ((w.alloc (.cells #[.int .i64 mem, .int .i64 stk, .int .i64 inp, .slice Ad ld cd, .slice Af lf cf, .slice Ac lc cc] 26)).alloc (.cells #[.int .i64 mem', .int .i64 stk', .int .i64 inp', .slice Ad' ld' cd', .slice Af' lf' cf', .slice Ac' lc' cc'] 26)) (.int .i64 mem) (.int .i64 stk) (.int .i64 inp) (.slice Ad ld cd) (.slice Af lf cf) (.slice Ac lc cc) (.int .i64 mem') (.int .i64 stk') (.int .i64 inp') (.slice Ad' ld' cd') (.slice Af' lf' cf') (.slice Ac' lc' cc') := ⟨by simp, by simp, by simp, by simp, by simp, by simp, by simp, by simp, by simp, by simp, by simp, by simp, by simp⟩
  have HT := Lib.hid hT
  have hF1 : ∀ W : World, Calls Tryd.prog 10 #[.agg #[.int .i64 mem, .int .i64 stk, .int .i64 inp, .slice Ad ld cd, .slice Af lf cf, .slice Ac lc cc]] W fun e w' => e = .returned (.bool true) ∧ Below W.heap.size W w' := fun W => by
    have := few_any mem stk inp Ad ld cd Af lf cf Ac lc cc W (Nat.le_trans hi.d.hle hi.d.hcap) (Nat.le_trans hi.f.hle hi.f.hcap) (Nat.le_trans hi.c.hle hi.c.hcap)
    rwa [hf1] at this
  have HF1 := Lib.hid hF1
  have hSM : ∀ W : World, ImAt W Ad ld cd Af lf cf Ac lc cc p → ImAt W Ad' ld' cd' Af' lf' cf' Ac' lc' cc' q → Calls Tryd.prog 15 #[.agg #[.int .i64 mem, .int .i64 stk, .int .i64 inp, .slice Ad ld cd, .slice Af lf cf, .slice Ac lc cc], .agg #[.int .i64 mem', .int .i64 stk', .int .i64 inp', .slice Ad' ld' cd', .slice Af' lf' cf', .slice Ac' lc' cc']] W fun e w' => e = .returned (.bool (Im.same p q)) ∧ Below W.heap.size W w' := fun W h1 h2 => same_any mem stk inp Ad ld cd Af lf cf Ac lc cc mem' stk' inp' Ad' ld' cd' Af' lf' cf' Ac' lc' cc' p q W h1 h2 e0 e1 e2 e3 e4 e5
  have hSQ : ∀ W : World, ImAt W Ad ld cd Af lf cf Ac lc cc p → ImAt W Ad' ld' cd' Af' lf' cf' Ac' lc' cc' q → Calls Tryd.prog 15 #[.agg #[.int .i64 mem', .int .i64 stk', .int .i64 inp', .slice Ad' ld' cd', .slice Af' lf' cf', .slice Ac' lc' cc'], .agg #[.int .i64 mem, .int .i64 stk, .int .i64 inp, .slice Ad ld cd, .slice Af lf cf, .slice Ac lc cc]] W fun e w' => e = .returned (.bool (Im.same p q)) ∧ Below W.heap.size W w' := fun W h1 h2 => by
    have := same_any mem' stk' inp' Ad' ld' cd' Af' lf' cf' Ac' lc' cc' mem stk inp Ad ld cd Af lf cf Ac lc cc q p W h2 h1 e3 e4 e5 e0 e1 e2
    rwa [Im.same_comm] at this
  have hSP : ∀ W : World, ImAt W Ad ld cd Af lf cf Ac lc cc p → Calls Tryd.prog 15 #[.agg #[.int .i64 mem, .int .i64 stk, .int .i64 inp, .slice Ad ld cd, .slice Af lf cf, .slice Ac lc cc], .agg #[.int .i64 mem, .int .i64 stk, .int .i64 inp, .slice Ad ld cd, .slice Af lf cf, .slice Ac lc cc]] W fun e w' => e = .returned (.bool true) ∧ Below W.heap.size W w' := fun W h1 => by
    have := same_any mem stk inp Ad ld cd Af lf cf Ac lc cc mem stk inp Ad ld cd Af lf cf Ac lc cc p p W h1 h1 e0 e1 e2 e0 e1 e2
    rwa [Im.same_refl] at this
  have hSR : ∀ W : World, ImAt W Ad ld cd Af lf cf Ac lc cc p → ImAt W Ad' ld' cd' Af' lf' cf' Ac' lc' cc' q → Calls Tryd.prog 14 #[.agg #[.int .i64 mem, .int .i64 stk, .int .i64 inp, .slice Ad ld cd, .slice Af lf cf, .slice Ac lc cc], .agg #[.int .i64 mem', .int .i64 stk', .int .i64 inp', .slice Ad' ld' cd', .slice Af' lf' cf', .slice Ac' lc' cc']] W fun e w' => e = .returned (.bool (Im.same p q)) ∧ Below W.heap.size W w' := fun W h1 h2 => rsame_any mem stk inp Ad ld cd Af lf cf Ac lc cc mem' stk' inp' Ad' ld' cd' Af' lf' cf' Ac' lc' cc' p q W h1 h2 e0 e1 e2 e3 e4 e5
  have hEP : ∀ W : World, Ops W → ImAt W Ad ld cd Af lf cf Ac lc cc p → Calls Tryd.prog 11 #[.agg #[.int .i64 mem, .int .i64 stk, .int .i64 inp, .slice Ad ld cd, .slice Af lf cf, .slice Ac lc cc]] W fun e w' => ∃ A n cap, e = .returned (.tuple #[.slice A n cap, .int .i64 (Im.chk p)]) ∧ BySl w' A n cap (Im.out p) ∧ Below W.heap.size W w' := fun W h0 h1 => encode_any mem stk inp Ad ld cd Af lf cf Ac lc cc p W h0 h1 e0 e1 e2
  have hEQ : ∀ W : World, Ops W → ImAt W Ad' ld' cd' Af' lf' cf' Ac' lc' cc' q → Calls Tryd.prog 11 #[.agg #[.int .i64 mem', .int .i64 stk', .int .i64 inp', .slice Ad' ld' cd', .slice Af' lf' cf', .slice Ac' lc' cc']] W fun e w' => ∃ A n cap, e = .returned (.tuple #[.slice A n cap, .int .i64 (Im.chk q)]) ∧ BySl w' A n cap (Im.out q) ∧ Below W.heap.size W w' := fun W h0 h1 => encode_any mem' stk' inp' Ad' ld' cd' Af' lf' cf' Ac' lc' cc' q W h0 h1 e3 e4 e5
  have HSM := Lib.hid hSM
  have HSQ := Lib.hid hSQ
  have HSP := Lib.hid hSP
  have HSR := Lib.hid hSR
  have HEP := Lib.hid hEP
  have HEQ := Lib.hid hEQ
  have hF2 : ∀ W : World, Calls Tryd.prog 10 #[.agg #[.int .i64 mem', .int .i64 stk', .int .i64 inp', .slice Ad' ld' cd', .slice Af' lf' cf', .slice Ac' lc' cc']] W fun e w' => e = .returned (.bool false) ∧ Below W.heap.size W w' := fun W => by
    have := few_any mem' stk' inp' Ad' ld' cd' Af' lf' cf' Ac' lc' cc' W (Nat.le_trans hj.d.hle hj.d.hcap) (Nat.le_trans hj.f.hle hj.f.hcap) (Nat.le_trans hj.c.hle hj.c.hcap)
    rwa [hf2] at this
  have HF2 := Lib.hid hF2
  clear hF2
  clear hT hF1 hSM hSQ hSP hSR hEP hEQ hi hj ho hB e0 e1 e2 e3 e4 e5
  clear hf1 hf2
  go_enter Tryd.func8, Tryd.ntmps8
  go_wp2_with fail
  refine (awake_any _ (HO.out.below HB.out hp)).mono ?_
  rintro e v ⟨rfl, hb⟩
  replace HT := Lib.hid (HT.out.below hb)
  replace HB := Lib.hid (HB.out.trans (hb.mono HB.out.size))
  replace HI := Lib.hid (HI.out.below hb)
  replace HJ := Lib.hid (HJ.out.below hb)
  clear hb
  have c0 := HT.out.c0
  have c1 := HT.out.c1
  have c2 := HT.out.c2
  have c3 := HT.out.c3
  have c4 := HT.out.c4
  have c5 := HT.out.c5
  have d0 := HT.out.d0
  have d1 := HT.out.d1
  have d2 := HT.out.d2
  have d3 := HT.out.d3
  have d4 := HT.out.d4
  have d5 := HT.out.d5
  go_wp2_with fail
  refine (HF1.out _).mono ?_
  rintro e v1 ⟨rfl, hb⟩
  replace HT := Lib.hid (HT.out.below hb)
  replace HB := Lib.hid (HB.out.trans (hb.mono HB.out.size))
  replace HI := Lib.hid (HI.out.below hb)
  replace HJ := Lib.hid (HJ.out.below hb)
  clear c0 c1 c2 c3 c4 c5 d0 d1 d2 d3 d4 d5
  clear hb
  have c0 := HT.out.c0
  have c1 := HT.out.c1
  have c2 := HT.out.c2
  have c3 := HT.out.c3
  have c4 := HT.out.c4
  have c5 := HT.out.c5
  have d0 := HT.out.d0
  have d1 := HT.out.d1
  have d2 := HT.out.d2
  have d3 := HT.out.d3
  have d4 := HT.out.d4
  have d5 := HT.out.d5
  go_wp2_with fail
  refine (HF2.out _).mono ?_
  rintro e v2 ⟨rfl, hb⟩
  replace HT := Lib.hid (HT.out.below hb)
  replace HB := Lib.hid (HB.out.trans (hb.mono HB.out.size))
  replace HI := Lib.hid (HI.out.below hb)
  replace HJ := Lib.hid (HJ.out.below hb)
  clear c0 c1 c2 c3 c4 c5 d0 d1 d2 d3 d4 d5
  clear hb
  go_wp2
  go_ret
  exact ⟨rfl, HB.out⟩

set_option maxRecDepth 10000 in
set_option maxHeartbeats 3200000 in
theorem same_main (mem stk inp : Int) (Ad : Option Addr) (ld cd : Nat) (Af : Option Addr) (lf cf : Nat) (Ac : Option Addr) (lc cc : Nat) (mem' stk' inp' : Int) (Ad' : Option Addr) (ld' cd' : Nat) (Af' : Option Addr) (lf' cf' : Nat) (Ac' : Option Addr) (lc' cc' : Nat) (p q : Im.Pic) (w : World) (ho : Ops w) (hi : ImAt w Ad ld cd Af lf cf Ac lc cc p) (hj : ImAt w Ad' ld' cd' Af' lf' cf' Ac' lc' cc' q) (e0 : p.mem = mem) (e1 : p.stk = stk) (e2 : p.inp = inp) (e3 : q.mem = mem') (e4 : q.stk = stk') (e5 : q.inp = inp') (hf1 : fewB ld lf lc = true) (hf2 : fewB ld' lf' lc' = true) (r : Bool) (hr0 : Im.same p q = r) :
    Calls Tryd.prog 8 #[.agg #[.int .i64 mem, .int .i64 stk, .int .i64 inp, .slice Ad ld cd, .slice Af lf cf, .slice Ac lc cc], .agg #[.int .i64 mem', .int .i64 stk', .int .i64 inp', .slice Ad' ld' cd', .slice Af' lf' cf', .slice Ac' lc' cc']] w fun e w' => e = .returned (.bool true) ∧ Below w.heap.size w w' := by
  have hp := ho.pos
  have hB : Below w.heap.size w ((w.alloc (.cells #[.int .i64 mem, .int .i64 stk, .int .i64 inp, .slice Ad ld cd, .slice Af lf cf, .slice Ac lc cc] 26)).alloc (.cells #[.int .i64 mem', .int .i64 stk', .int .i64 inp', .slice Ad' ld' cd', .slice Af' lf' cf', .slice Ac' lc' cc'] 26)) := ((Below.refl _ _).alloc (Nat.le_refl _) _).alloc (by simp) _
  have HB := Lib.hid hB
  have HO := Lib.hid ho
  have HI := Lib.hid (hi.below hB)
  have HJ := Lib.hid (hj.below hB)
  have HRP := Lib.hid hi.c.rng
  have HRQ := Lib.hid hj.c.rng
  have HDP := Lib.hid hi.d.isB
  have HDQ := Lib.hid hj.d.isB
  have hT : Two w ((w.alloc (.cells #[.int .i64 mem, .int .i64 stk, .int .i64 inp, .slice Ad ld cd, .slice Af lf cf, .slice Ac lc cc] 26)).alloc (.cells #[.int .i64 mem', .int .i64 stk', .int .i64 inp', .slice Ad' ld' cd', .slice Af' lf' cf', .slice Ac' lc' cc'] 26)) (.int .i64 mem) (.int .i64 stk) (.int .i64 inp) (.slice Ad ld cd) (.slice Af lf cf) (.slice Ac lc cc) (.int .i64 mem') (.int .i64 stk') (.int .i64 inp') (.slice Ad' ld' cd') (.slice Af' lf' cf') (.slice Ac' lc' cc') := ⟨by simp, by simp, by simp, by simp, by simp, by simp, by simp, by simp, by simp, by simp, by simp, by simp, by simp⟩
  have HT := Lib.hid hT
  have hF1 : ∀ W : World, Calls Tryd.prog 10 #[.agg #[.int .i64 mem, .int .i64 stk, .int .i64 inp, .slice Ad ld cd, .slice Af lf cf, .slice Ac lc cc]] W fun e w' => e = .returned (.bool true) ∧ Below W.heap.size W w' := fun W => by
    have := few_any mem stk inp Ad ld cd Af lf cf Ac lc cc W (Nat.le_trans hi.d.hle hi.d.hcap) (Nat.le_trans hi.f.hle hi.f.hcap) (Nat.le_trans hi.c.hle hi.c.hcap)
    rwa [hf1] at this
  have HF1 := Lib.hid hF1
  have hSM : ∀ W : World, ImAt W Ad ld cd Af lf cf Ac lc cc p → ImAt W Ad' ld' cd' Af' lf' cf' Ac' lc' cc' q → Calls Tryd.prog 15 #[.agg #[.int .i64 mem, .int .i64 stk, .int .i64 inp, .slice Ad ld cd, .slice Af lf cf, .slice Ac lc cc], .agg #[.int .i64 mem', .int .i64 stk', .int .i64 inp', .slice Ad' ld' cd', .slice Af' lf' cf', .slice Ac' lc' cc']] W fun e w' => e = .returned (.bool (Im.same p q)) ∧ Below W.heap.size W w' := fun W h1 h2 => same_any mem stk inp Ad ld cd Af lf cf Ac lc cc mem' stk' inp' Ad' ld' cd' Af' lf' cf' Ac' lc' cc' p q W h1 h2 e0 e1 e2 e3 e4 e5
  have hSQ : ∀ W : World, ImAt W Ad ld cd Af lf cf Ac lc cc p → ImAt W Ad' ld' cd' Af' lf' cf' Ac' lc' cc' q → Calls Tryd.prog 15 #[.agg #[.int .i64 mem', .int .i64 stk', .int .i64 inp', .slice Ad' ld' cd', .slice Af' lf' cf', .slice Ac' lc' cc'], .agg #[.int .i64 mem, .int .i64 stk, .int .i64 inp, .slice Ad ld cd, .slice Af lf cf, .slice Ac lc cc]] W fun e w' => e = .returned (.bool (Im.same p q)) ∧ Below W.heap.size W w' := fun W h1 h2 => by
    have := same_any mem' stk' inp' Ad' ld' cd' Af' lf' cf' Ac' lc' cc' mem stk inp Ad ld cd Af lf cf Ac lc cc q p W h2 h1 e3 e4 e5 e0 e1 e2
    rwa [Im.same_comm] at this
  have hSP : ∀ W : World, ImAt W Ad ld cd Af lf cf Ac lc cc p → Calls Tryd.prog 15 #[.agg #[.int .i64 mem, .int .i64 stk, .int .i64 inp, .slice Ad ld cd, .slice Af lf cf, .slice Ac lc cc], .agg #[.int .i64 mem, .int .i64 stk, .int .i64 inp, .slice Ad ld cd, .slice Af lf cf, .slice Ac lc cc]] W fun e w' => e = .returned (.bool true) ∧ Below W.heap.size W w' := fun W h1 => by
    have := same_any mem stk inp Ad ld cd Af lf cf Ac lc cc mem stk inp Ad ld cd Af lf cf Ac lc cc p p W h1 h1 e0 e1 e2 e0 e1 e2
    rwa [Im.same_refl] at this
  have hSR : ∀ W : World, ImAt W Ad ld cd Af lf cf Ac lc cc p → ImAt W Ad' ld' cd' Af' lf' cf' Ac' lc' cc' q → Calls Tryd.prog 14 #[.agg #[.int .i64 mem, .int .i64 stk, .int .i64 inp, .slice Ad ld cd, .slice Af lf cf, .slice Ac lc cc], .agg #[.int .i64 mem', .int .i64 stk', .int .i64 inp', .slice Ad' ld' cd', .slice Af' lf' cf', .slice Ac' lc' cc']] W fun e w' => e = .returned (.bool (Im.same p q)) ∧ Below W.heap.size W w' := fun W h1 h2 => rsame_any mem stk inp Ad ld cd Af lf cf Ac lc cc mem' stk' inp' Ad' ld' cd' Af' lf' cf' Ac' lc' cc' p q W h1 h2 e0 e1 e2 e3 e4 e5
  have hEP : ∀ W : World, Ops W → ImAt W Ad ld cd Af lf cf Ac lc cc p → Calls Tryd.prog 11 #[.agg #[.int .i64 mem, .int .i64 stk, .int .i64 inp, .slice Ad ld cd, .slice Af lf cf, .slice Ac lc cc]] W fun e w' => ∃ A n cap, e = .returned (.tuple #[.slice A n cap, .int .i64 (Im.chk p)]) ∧ BySl w' A n cap (Im.out p) ∧ Below W.heap.size W w' := fun W h0 h1 => encode_any mem stk inp Ad ld cd Af lf cf Ac lc cc p W h0 h1 e0 e1 e2
  have hEQ : ∀ W : World, Ops W → ImAt W Ad' ld' cd' Af' lf' cf' Ac' lc' cc' q → Calls Tryd.prog 11 #[.agg #[.int .i64 mem', .int .i64 stk', .int .i64 inp', .slice Ad' ld' cd', .slice Af' lf' cf', .slice Ac' lc' cc']] W fun e w' => ∃ A n cap, e = .returned (.tuple #[.slice A n cap, .int .i64 (Im.chk q)]) ∧ BySl w' A n cap (Im.out q) ∧ Below W.heap.size W w' := fun W h0 h1 => encode_any mem' stk' inp' Ad' ld' cd' Af' lf' cf' Ac' lc' cc' q W h0 h1 e3 e4 e5
  have HSM := Lib.hid hSM
  have HSQ := Lib.hid hSQ
  have HSP := Lib.hid hSP
  have HSR := Lib.hid hSR
  have HEP := Lib.hid hEP
  have HEQ := Lib.hid hEQ
  have hF2 : ∀ W : World, Calls Tryd.prog 10 #[.agg #[.int .i64 mem', .int .i64 stk', .int .i64 inp', .slice Ad' ld' cd', .slice Af' lf' cf', .slice Ac' lc' cc']] W fun e w' => e = .returned (.bool true) ∧ Below W.heap.size W w' := fun W => by
    have := few_any mem' stk' inp' Ad' ld' cd' Af' lf' cf' Ac' lc' cc' W (Nat.le_trans hj.d.hle hj.d.hcap) (Nat.le_trans hj.f.hle hj.f.hcap) (Nat.le_trans hj.c.hle hj.c.hcap)
    rwa [hf2] at this
  have HF2 := Lib.hid hF2
  clear hF2
  clear hT hF1 hSM hSQ hSP hSR hEP hEQ hi hj ho hB e0 e1 e2 e3 e4 e5
  clear hf1 hf2
  have hr : Im.same p q = r := hr0
  have HR := Lib.hid hr
  rw [hr] at HSM HSQ HSR
  clear hr hr0
  go_enter Tryd.func8, Tryd.ntmps8
  go_wp2_with fail
  refine (awake_any _ (HO.out.below HB.out hp)).mono ?_
  rintro e v ⟨rfl, hb⟩
  replace HT := Lib.hid (HT.out.below hb)
  replace HB := Lib.hid (HB.out.trans (hb.mono HB.out.size))
  replace HI := Lib.hid (HI.out.below hb)
  replace HJ := Lib.hid (HJ.out.below hb)
  clear hb
  have c0 := HT.out.c0
  have c1 := HT.out.c1
  have c2 := HT.out.c2
  have c3 := HT.out.c3
  have c4 := HT.out.c4
  have c5 := HT.out.c5
  have d0 := HT.out.d0
  have d1 := HT.out.d1
  have d2 := HT.out.d2
  have d3 := HT.out.d3
  have d4 := HT.out.d4
  have d5 := HT.out.d5
  go_wp2_with fail
  refine (HF1.out _).mono ?_
  rintro e v1 ⟨rfl, hb⟩
  replace HT := Lib.hid (HT.out.below hb)
  replace HB := Lib.hid (HB.out.trans (hb.mono HB.out.size))
  replace HI := Lib.hid (HI.out.below hb)
  replace HJ := Lib.hid (HJ.out.below hb)
  clear c0 c1 c2 c3 c4 c5 d0 d1 d2 d3 d4 d5
  clear hb
  have c0 := HT.out.c0
  have c1 := HT.out.c1
  have c2 := HT.out.c2
  have c3 := HT.out.c3
  have c4 := HT.out.c4
  have c5 := HT.out.c5
  have d0 := HT.out.d0
  have d1 := HT.out.d1
  have d2 := HT.out.d2
  have d3 := HT.out.d3
  have d4 := HT.out.d4
  have d5 := HT.out.d5
  go_wp2_with fail
  refine (HF2.out _).mono ?_
  rintro e v2 ⟨rfl, hb⟩
  replace HT := Lib.hid (HT.out.below hb)
  replace HB := Lib.hid (HB.out.trans (hb.mono HB.out.size))
  replace HI := Lib.hid (HI.out.below hb)
  replace HJ := Lib.hid (HJ.out.below hb)
  clear c0 c1 c2 c3 c4 c5 d0 d1 d2 d3 d4 d5
  clear hb
  have c0 := HT.out.c0
  have c1 := HT.out.c1
  have c2 := HT.out.c2
  have c3 := HT.out.c3
  have c4 := HT.out.c4
  have c5 := HT.out.c5
  have d0 := HT.out.d0
  have d1 := HT.out.d1
  have d2 := HT.out.d2
  have d3 := HT.out.d3
  have d4 := HT.out.d4
  have d5 := HT.out.d5
  go_wp2_with fail
  refine (HSM.out _ HI.out HJ.out).mono ?_
  rintro e v3 ⟨rfl, hb⟩
  replace HT := Lib.hid (HT.out.below hb)
  replace HB := Lib.hid (HB.out.trans (hb.mono HB.out.size))
  replace HI := Lib.hid (HI.out.below hb)
  replace HJ := Lib.hid (HJ.out.below hb)
  clear c0 c1 c2 c3 c4 c5 d0 d1 d2 d3 d4 d5
  clear hb
  have c0 := HT.out.c0
  have c1 := HT.out.c1
  have c2 := HT.out.c2
  have c3 := HT.out.c3
  have c4 := HT.out.c4
  have c5 := HT.out.c5
  have d0 := HT.out.d0
  have d1 := HT.out.d1
  have d2 := HT.out.d2
  have d3 := HT.out.d3
  have d4 := HT.out.d4
  have d5 := HT.out.d5
  go_wp2_with fail
  refine (HSR.out _ HI.out HJ.out).mono ?_
  rintro e v4 ⟨rfl, hb⟩
  replace HT := Lib.hid (HT.out.below hb)
  replace HB := Lib.hid (HB.out.trans (hb.mono HB.out.size))
  replace HI := Lib.hid (HI.out.below hb)
  replace HJ := Lib.hid (HJ.out.below hb)
  clear c0 c1 c2 c3 c4 c5 d0 d1 d2 d3 d4 d5
  clear hb
  have hrr : (r == r) = true := by simp
  have c0 := HT.out.c0
  have c1 := HT.out.c1
  have c2 := HT.out.c2
  have c3 := HT.out.c3
  have c4 := HT.out.c4
  have c5 := HT.out.c5
  have d0 := HT.out.d0
  have d1 := HT.out.d1
  have d2 := HT.out.d2
  have d3 := HT.out.d3
  have d4 := HT.out.d4
  have d5 := HT.out.d5
  go_wp2_with fail
  refine (HSQ.out _ HI.out HJ.out).mono ?_
  rintro e v5 ⟨rfl, hb⟩
  replace HT := Lib.hid (HT.out.below hb)
  replace HB := Lib.hid (HB.out.trans (hb.mono HB.out.size))
  replace HI := Lib.hid (HI.out.below hb)
  replace HJ := Lib.hid (HJ.out.below hb)
  clear c0 c1 c2 c3 c4 c5 d0 d1 d2 d3 d4 d5
  clear hb
  have c0 := HT.out.c0
  have c1 := HT.out.c1
  have c2 := HT.out.c2
  have c3 := HT.out.c3
  have c4 := HT.out.c4
  have c5 := HT.out.c5
  have d0 := HT.out.d0
  have d1 := HT.out.d1
  have d2 := HT.out.d2
  have d3 := HT.out.d3
  have d4 := HT.out.d4
  have d5 := HT.out.d5
  go_wp2_with fail
  refine (HSP.out _ HI.out).mono ?_
  rintro e v6 ⟨rfl, hb⟩
  replace HT := Lib.hid (HT.out.below hb)
  replace HB := Lib.hid (HB.out.trans (hb.mono HB.out.size))
  replace HI := Lib.hid (HI.out.below hb)
  replace HJ := Lib.hid (HJ.out.below hb)
  clear c0 c1 c2 c3 c4 c5 d0 d1 d2 d3 d4 d5
  clear hb
  clear hrr
  have c0 := HT.out.c0
  have c1 := HT.out.c1
  have c2 := HT.out.c2
  have c3 := HT.out.c3
  have c4 := HT.out.c4
  have c5 := HT.out.c5
  have d0 := HT.out.d0
  have d1 := HT.out.d1
  have d2 := HT.out.d2
  have d3 := HT.out.d3
  have d4 := HT.out.d4
  have d5 := HT.out.d5
  go_wp2_with fail
  refine (HEP.out _ (HO.out.below HB.out hp) HI.out).mono ?_
  rintro e v7 ⟨A, n, cap, rfl, hby, hb⟩
  replace HT := Lib.hid (HT.out.below hb)
  replace HB := Lib.hid (HB.out.trans (hb.mono HB.out.size))
  replace HI := Lib.hid (HI.out.below hb)
  replace HJ := Lib.hid (HJ.out.below hb)
  clear c0 c1 c2 c3 c4 c5 d0 d1 d2 d3 d4 d5
  have HBY := Lib.hid hby
  clear hb hby
  have c0 := HT.out.c0
  have c1 := HT.out.c1
  have c2 := HT.out.c2
  have c3 := HT.out.c3
  have c4 := HT.out.c4
  have c5 := HT.out.c5
  have d0 := HT.out.d0
  have d1 := HT.out.d1
  have d2 := HT.out.d2
  have d3 := HT.out.d3
  have d4 := HT.out.d4
  have d5 := HT.out.d5
  go_wp2_with fail
  refine (HEQ.out _ (HO.out.below HB.out hp) HJ.out).mono ?_
  rintro e v8 ⟨A', n', cap', rfl, hby', hb⟩
  replace HT := Lib.hid (HT.out.below hb)
  replace HB := Lib.hid (HB.out.trans (hb.mono HB.out.size))
  replace HI := Lib.hid (HI.out.below hb)
  replace HJ := Lib.hid (HJ.out.below hb)
  clear c0 c1 c2 c3 c4 c5 d0 d1 d2 d3 d4 d5
  have HBY' := Lib.hid hby'
  replace HBY := Lib.hid (HBY.out.below hb)
  clear hb hby'
  by_cases hc1 : Im.chk p = 0
  · rw [hc1]
    by_cases hc2 : Im.chk q = 0
    · rw [hc2]
      have hcv1 := by_str HBY.out
      have hcv2 := by_str HBY'.out
      have o1 := Im.out_ok hc1
      have o2 := Im.out_ok hc2
      have i1 := HBY.out.isB
      have i2 := HBY'.out.isB
      have hse : (strOfNums (Im.out p) = strOfNums (Im.out q)) ↔ Im.same p q = true := by
        rw [Im.same_eq, ← Im.enc_inj HRP.out HRQ.out, ← o1, ← o2]
        exact ⟨fun e => strOfNums_inj (fun x hx' => Im.mem_isB i1 hx') (fun x hx' => Im.mem_isB i2 hx') e, fun e => by rw [e]⟩
      rw [HR.out] at hse
      have HSE := Lib.hid hse
      clear o1 o2 i1 i2 hse hc1 hc2
      have hS : ∃ S L, strOfNums (Im.out p) = S ∧ strOfNums (Im.out q) = L := ⟨_, _, rfl, rfl⟩
      obtain ⟨S, L, hS, hL⟩ := hS
      rw [hS] at hcv1 HSE
      rw [hL] at hcv2 HSE
      clear hS hL
      have hbe : (S.toList == L.toList) = r := by
        cases r with
        | true =>
          have e : S = L := HSE.out.2 rfl
          rw [e]; simp
        | false =>
          rw [Bool.eq_false_iff]
          intro h
          have := HSE.out.1 (bytes_of_beq h)
          cases this
      have hrr : (r == r) = true := by simp
      go_wp2
      go_ret
      exact ⟨rfl, HB.out⟩
    · have hne : (Im.chk q != 0) = true := by simpa using hc2
      have hcv1 := by_str HBY.out
      have hcv2 := by_str HBY'.out
      clear hc1 hc2
      go_wp2
      go_ret
      exact ⟨rfl, HB.out⟩
  · have hne : (Im.chk p != 0) = true := by simpa using hc1
    clear hc1
    go_wp2
    go_ret
    exact ⟨rfl, HB.out⟩

theorem same_walk (mem stk inp : Int) (Ad : Option Addr) (ld cd : Nat) (Af : Option Addr) (lf cf : Nat) (Ac : Option Addr) (lc cc : Nat) (mem' stk' inp' : Int) (Ad' : Option Addr) (ld' cd' : Nat) (Af' : Option Addr) (lf' cf' : Nat) (Ac' : Option Addr) (lc' cc' : Nat) (p q : Im.Pic) (w : World) (ho : Ops w) (hi : ImAt w Ad ld cd Af lf cf Ac lc cc p) (hj : ImAt w Ad' ld' cd' Af' lf' cf' Ac' lc' cc' q) (e0 : p.mem = mem) (e1 : p.stk = stk) (e2 : p.inp = inp) (e3 : q.mem = mem') (e4 : q.stk = stk') (e5 : q.inp = inp') :
    Calls Tryd.prog 8 #[.agg #[.int .i64 mem, .int .i64 stk, .int .i64 inp, .slice Ad ld cd, .slice Af lf cf, .slice Ac lc cc], .agg #[.int .i64 mem', .int .i64 stk', .int .i64 inp', .slice Ad' ld' cd', .slice Af' lf' cf', .slice Ac' lc' cc']] w fun e w' => e = .returned (.bool true) ∧ Below w.heap.size w w' := by
  by_cases h1 : fewB ld lf lc = true
  · by_cases h2 : fewB ld' lf' lc' = true
    · exact same_main mem stk inp Ad ld cd Af lf cf Ac lc cc mem' stk' inp' Ad' ld' cd' Af' lf' cf' Ac' lc' cc' p q w ho hi hj e0 e1 e2 e3 e4 e5 h1 h2 _ rfl
    · exact same_many2 mem stk inp Ad ld cd Af lf cf Ac lc cc mem' stk' inp' Ad' ld' cd' Af' lf' cf' Ac' lc' cc' p q w ho hi hj e0 e1 e2 e3 e4 e5 h1 (by simpa using h2)
  · exact same_many1 mem stk inp Ad ld cd Af lf cf Ac lc cc mem' stk' inp' Ad' ld' cd' Af' lf' cf' Ac' lc' cc' p q w ho hi hj e0 e1 e2 e3 e4 e5 (by simpa using h1)

end Go.Proofs.YtjadiijjahjjoaaDoor
