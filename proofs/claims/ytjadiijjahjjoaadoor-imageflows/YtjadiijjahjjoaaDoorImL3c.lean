/-
  The walk of the law on flowing, whatever the image.
-/
import Derived.Test.YtjadiijjahjjoaaDoorImL3
namespace Go.Proofs.YtjadiijjahjjoaaDoor
open Go.RowKit

set_option maxRecDepth 10000 in
set_option maxHeartbeats 1600000 in
theorem flows_many (mem stk inp : Int) (Ad : Option Addr) (ld cd : Nat) (Af : Option Addr) (lf cf : Nat) (Ac : Option Addr) (lc cc : Nat) (w : World) (ho : Ops w) (h1 : ld ≤ maxLen) (h2 : lf ≤ maxLen) (h3 : lc ≤ maxLen) (hfew : fewB ld lf lc = false) :
    Calls Tryd.prog 7 #[.agg #[.int .i64 mem, .int .i64 stk, .int .i64 inp, .slice Ad ld cd, .slice Af lf cf, .slice Ac lc cc]] w fun e w' => e = .returned (.bool true) ∧ Below w.heap.size w w' := by
  have hp := ho.pos
  have HFEW : ∀ W : World, Calls Tryd.prog 10 #[.agg #[.int .i64 mem, .int .i64 stk, .int .i64 inp, .slice Ad ld cd, .slice Af lf cf, .slice Ac lc cc]] W fun e w' => e = .returned (.bool false) ∧ Below W.heap.size W w' := fun W => by
    have := few_any mem stk inp Ad ld cd Af lf cf Ac lc cc W h1 h2 h3
    rwa [hfew] at this
  have HF := Lib.hid HFEW
  have HO := Lib.hid (ho.below (Below.box w (.cells #[.int .i64 mem, .int .i64 stk, .int .i64 inp, .slice Ad ld cd, .slice Af lf cf, .slice Ac lc cc] 26)) hp)
  clear HFEW ho hfew h1 h2 h3
  go_enter Tryd.func7, Tryd.ntmps7
  go_wp2_with fail
  refine (awake_any _ HO.out).mono ?_
  rintro e v ⟨rfl, hb⟩
  have c0 : v.cell? ⟨w.heap.size, 0, none⟩ = some (.int .i64 mem) := cells_below hb (by simp) (by simp)
  have c1 : v.cell? ⟨w.heap.size, 1, none⟩ = some (.int .i64 stk) := cells_below hb (by simp) (by simp)
  have c2 : v.cell? ⟨w.heap.size, 2, none⟩ = some (.int .i64 inp) := cells_below hb (by simp) (by simp)
  have c3 : v.cell? ⟨w.heap.size, 3, none⟩ = some (.slice Ad ld cd) := cells_below hb (by simp) (by simp)
  have c4 : v.cell? ⟨w.heap.size, 4, none⟩ = some (.slice Af lf cf) := cells_below hb (by simp) (by simp)
  have c5 : v.cell? ⟨w.heap.size, 5, none⟩ = some (.slice Ac lc cc) := cells_below hb (by simp) (by simp)
  have HB := Lib.hid ((Below.box w (.cells #[.int .i64 mem, .int .i64 stk, .int .i64 inp, .slice Ad ld cd, .slice Af lf cf, .slice Ac lc cc] 26)).trans (hb.mono (by simp)))
  clear hb
  go_wp2_with fail
  refine (HF.out _).mono ?_
  rintro e v1 ⟨rfl, hb⟩
  have HB1 := Lib.hid (HB.out.trans (hb.mono HB.out.size))
  clear hb c0 c1 c2 c3 c4 c5
  go_wp2
  go_ret
  exact ⟨rfl, HB1.out⟩

set_option maxRecDepth 10000 in
set_option maxHeartbeats 1600000 in
theorem flows_wrong (mem stk inp : Int) (Ad : Option Addr) (ld cd : Nat) (Af : Option Addr) (lf cf : Nat) (Ac : Option Addr) (lc cc : Nat) (p : Im.Pic) (w : World) (ho : Ops w) (hi : ImAt w Ad ld cd Af lf cf Ac lc cc p) (e0 : p.mem = mem) (e1 : p.stk = stk) (e2 : p.inp = inp) (hfew : fewB ld lf lc = true) (hck : Im.chk p ≠ 0) :
    Calls Tryd.prog 7 #[.agg #[.int .i64 mem, .int .i64 stk, .int .i64 inp, .slice Ad ld cd, .slice Af lf cf, .slice Ac lc cc]] w fun e w' => e = .returned (.bool true) ∧ Below w.heap.size w w' := by
  have hp := ho.pos
  have HFEW : ∀ W : World, Calls Tryd.prog 10 #[.agg #[.int .i64 mem, .int .i64 stk, .int .i64 inp, .slice Ad ld cd, .slice Af lf cf, .slice Ac lc cc]] W fun e w' => e = .returned (.bool true) ∧ Below W.heap.size W w' := fun W => by
    have := few_any mem stk inp Ad ld cd Af lf cf Ac lc cc W (Nat.le_trans hi.d.hle hi.d.hcap) (Nat.le_trans hi.f.hle hi.f.hcap) (Nat.le_trans hi.c.hle hi.c.hcap)
    rwa [hfew] at this
  have HF := Lib.hid HFEW
  have H0 := Lib.hid (Below.box w (.cells #[.int .i64 mem, .int .i64 stk, .int .i64 inp, .slice Ad ld cd, .slice Af lf cf, .slice Ac lc cc] 26))
  have HO := Lib.hid ho
  have HI := Lib.hid hi
  have hne : (Im.chk p != 0) = true := by simpa using hck
  have E0 := Lib.hid e0
  have E1 := Lib.hid e1
  have E2 := Lib.hid e2
  clear HFEW ho hfew hi hck e0 e1 e2
  go_enter Tryd.func7, Tryd.ntmps7
  go_wp2_with fail
  refine (awake_any _ (HO.out.below H0.out hp)).mono ?_
  rintro e v ⟨rfl, hb⟩
  have c0 : v.cell? ⟨w.heap.size, 0, none⟩ = some (.int .i64 mem) := cells_below hb (by simp) (by simp)
  have c1 : v.cell? ⟨w.heap.size, 1, none⟩ = some (.int .i64 stk) := cells_below hb (by simp) (by simp)
  have c2 : v.cell? ⟨w.heap.size, 2, none⟩ = some (.int .i64 inp) := cells_below hb (by simp) (by simp)
  have c3 : v.cell? ⟨w.heap.size, 3, none⟩ = some (.slice Ad ld cd) := cells_below hb (by simp) (by simp)
  have c4 : v.cell? ⟨w.heap.size, 4, none⟩ = some (.slice Af lf cf) := cells_below hb (by simp) (by simp)
  have c5 : v.cell? ⟨w.heap.size, 5, none⟩ = some (.slice Ac lc cc) := cells_below hb (by simp) (by simp)
  have HB := Lib.hid (H0.out.trans (hb.mono (by simp)))
  have hsz : w.heap.size < v.heap.size := by have := hb.size; simp at this; omega
  clear hb
  go_wp2_with fail
  refine (HF.out _).mono ?_
  rintro e v1 ⟨rfl, hb⟩
  have HB1 := Lib.hid (HB.out.trans (hb.mono HB.out.size))
  replace c0 := cells_below hb c0 hsz
  replace c1 := cells_below hb c1 hsz
  replace c2 := cells_below hb c2 hsz
  replace c3 := cells_below hb c3 hsz
  replace c4 := cells_below hb c4 hsz
  replace c5 := cells_below hb c5 hsz
  clear hb
  go_wp2_with fail
  refine (encode_any _ _ _ _ _ _ _ _ _ _ _ _ p _ (HO.out.below HB1.out hp) (HI.out.below HB1.out) E0.out E1.out E2.out).mono ?_
  rintro e v2 ⟨A, n, cap, rfl, _, hb⟩
  have HB2 := Lib.hid (HB1.out.trans (hb.mono HB1.out.size))
  clear hb c0 c1 c2 c3 c4 c5
  go_wp2
  go_ret
  exact ⟨rfl, HB2.out⟩

theorem flows_walk (mem stk inp : Int) (Ad : Option Addr) (ld cd : Nat) (Af : Option Addr) (lf cf : Nat) (Ac : Option Addr) (lc cc : Nat) (p : Im.Pic) (w : World) (ho : Ops w) (hi : ImAt w Ad ld cd Af lf cf Ac lc cc p) (e0 : p.mem = mem) (e1 : p.stk = stk) (e2 : p.inp = inp) :
    Calls Tryd.prog 7 #[.agg #[.int .i64 mem, .int .i64 stk, .int .i64 inp, .slice Ad ld cd, .slice Af lf cf, .slice Ac lc cc]] w fun e w' => e = .returned (.bool true) ∧ Below w.heap.size w w' := by
  by_cases hf : fewB ld lf lc = true
  · by_cases hc : Im.chk p = 0
    · exact flows_main mem stk inp Ad ld cd Af lf cf Ac lc cc p w ho hi e0 e1 e2 hf hc
    · exact flows_wrong mem stk inp Ad ld cd Af lf cf Ac lc cc p w ho hi e0 e1 e2 hf hc
  · exact flows_many mem stk inp Ad ld cd Af lf cf Ac lc cc w ho (Nat.le_trans hi.d.hle hi.d.hcap) (Nat.le_trans hi.f.hle hi.f.hcap) (Nat.le_trans hi.c.hle hi.c.hcap) (by simpa using hf)
end Go.Proofs.YtjadiijjahjjoaaDoor
