/-
  great, and the laws' own example.
-/
import Derived.Test.YthkhadbeomkihaaDoorMc18
namespace Go.Proofs.YthkhadbeomkihaaDoor
set_option maxRecDepth 100000
open Go.RowKit

def greatB (ld lf lc li : Nat) (steps : Int) : Bool := !fewB ld lf lc || decide ((40 : Int) < li) || decide (300 < steps)
set_option maxHeartbeats 1600000 in
theorem great_any (mem stk inp : Int) (Ad : Option Addr) (ld cd : Nat) (Af : Option Addr) (lf cf : Nat) (Ac : Option Addr) (lc cc : Nat) (Ai : Option Addr) (li ci : Nat) (steps : Int) (w : World) (h1 : ld ≤ maxLen) (h2 : lf ≤ maxLen) (h3 : lc ≤ maxLen) (h4 : li ≤ maxLen) :
    Calls Tryd.prog 11 #[.agg #[.int .i64 mem, .int .i64 stk, .int .i64 inp, .slice Ad ld cd, .slice Af lf cf, .slice Ac lc cc], .slice Ai li ci, .int .i64 steps] w fun e w' => e = .returned (.bool (greatB ld lf lc li steps)) ∧ Below w.heap.size w w' := by
  have hf := fun W => few_any mem stk inp Ad ld cd Af lf cf Ac lc cc W h1 h2 h3
  unfold greatB
  unfold maxLen at h4
  generalize fewB ld lf lc = q at *
  have HF := Lib.hid hf
  clear hf
  go_enter Tryd.func11, Tryd.ntmps11
  go_wp2_with (go_at_call 27; refine (HF.out _).mono ?_; rintro e v ⟨rfl, hb⟩; have HB := Lib.hid hb; clear hb)
  all_goals
    go_ret
    refine ⟨ret_bool ?_, (Below.box _ _).trans (HB.out.mono (by simp))⟩
    simp_all
    try omega

def exM : Im.Pic := ⟨0, 0, 0, [], [0], [⟨1, 1, 0, 0, 5⟩, Im.z5]⟩
theorem exM9 : Mc.answer exM [] 9 = ([0, 1], 1, [0, 5, 0, 0, 0, 0, 0, 0], [], 0) := by decide +kernel
theorem exM1 : Mc.answer exM [] 1 = ([0, 1], 0, [0, 5, 0, 0, 0, 0, 0, 0], [], 0) := by decide +kernel
theorem exN : Mc.reachN exM [] 1 1 = 1 := by unfold Mc.reachN; rw [exM1]; decide +kernel
theorem exB2 : Mc.reachB exM [] 1 1 = true := by unfold Mc.reachB; rw [exM1]; decide +kernel

set_option maxRecDepth 20000 in
set_option maxHeartbeats 3200000 in
theorem mc_awake (w : World) (ho : Ops w) : Calls Tryd.prog 10 #[] w fun e w' => e = .returned (.bool true) ∧ Below w.heap.size w w' := by
  have hp := ho.pos
  obtain ⟨H, hH⟩ : ∃ H : Hd, H = ⟨0, 0, 0, none, 0, 0, some ⟨w.heap.size, 0, none⟩, 1, 1, some ⟨w.heap.size + 1, 0, none⟩, 2, 2, none, 0, 0, exM, []⟩ := ⟨_, rfl⟩
  have hI : ∀ o, Below w.heap.size w (((w.alloc (.cells #[.int .i64 0] 3)).alloc (.cells #[.int .i64 1, .int .i64 1, .int .i64 0, .int .i64 0, .int .u64 5, .int .i64 0, .int .i64 0, .int .i64 0, .int .i64 0, .int .u64 0] 59)).alloc o) := fun o => (((Below.refl _ _).alloc (Nat.le_refl _) _).alloc (by simp) _).alloc (by simp; omega) _
  have hA : ∀ o, HdAt (((w.alloc (.cells #[.int .i64 0] 3)).alloc (.cells #[.int .i64 1, .int .i64 1, .int .i64 0, .int .i64 0, .int .u64 5, .int .i64 0, .int .i64 0, .int .i64 0, .int .i64 0, .int .u64 0] 59)).alloc o) H := fun o => by
    have h3 := three w (.cells #[.int .i64 0] 3) (.cells #[.int .i64 1, .int .i64 1, .int .i64 0, .int .i64 0, .int .u64 5, .int .i64 0, .int .i64 0, .int .i64 0, .int .i64 0, .int .u64 0] 59) o
    have hz : (((w.alloc (.cells #[.int .i64 0] 3)).alloc (.cells #[.int .i64 1, .int .i64 1, .int .i64 0, .int .i64 0, .int .u64 5, .int .i64 0, .int .i64 0, .int .i64 0, .int .i64 0, .int .u64 0] 59)).alloc o).heap.size = w.heap.size + 3 := by simp
    generalize ((w.alloc (.cells #[.int .i64 0] 3)).alloc (.cells #[.int .i64 1, .int .i64 1, .int .i64 0, .int .i64 0, .int .u64 5, .int .i64 0, .int .i64 0, .int .i64 0, .int .i64 0, .int .u64 0] 59)).alloc o = w1 at *
    rw [hH]
    refine ⟨⟨BySl.nil, ⟨rfl, Nat.le_refl _, by simp only [maxLen]; omega, by simp, fun _ => ⟨w.heap.size, 0, rfl, by omega, fun i hi => ?_⟩⟩, ⟨rfl, Nat.le_refl _, by simp only [maxLen]; omega, by simp, fun i => ?_, fun _ => ⟨w.heap.size + 1, 0, rfl, by omega, fun i hi => ?_⟩⟩⟩, rfl, rfl, rfl, BySl.nil⟩
    · have hi : i < 1 := hi
      obtain rfl : i = 0 := by omega
      exact row_cell h3.1 0
    · show 0 ≤ (exM.cs.getD i Im.z5).m ∧ (exM.cs.getD i Im.z5).m < 18446744073709551616
      match i with
      | 0 | 1 => decide
      | i + 2 => simp [exM, Im.z5]
    · match i, hi with
      | 0, _ => exact ⟨row_cell h3.2.1 0, row_cell h3.2.1 1, row_cell h3.2.1 2, row_cell h3.2.1 3, row_cell h3.2.1 4⟩
      | 1, _ => exact ⟨row_cell h3.2.1 5, row_cell h3.2.1 6, row_cell h3.2.1 7, row_cell h3.2.1 8, row_cell h3.2.1 9⟩
  have hrun : ∀ W, Ops W → HdAt W H → Calls Tryd.prog 12 #[.agg #[.int .i64 0, .int .i64 0, .int .i64 0, .slice none 0 0, .slice (some ⟨w.heap.size, 0, none⟩) 1 1, .slice (some ⟨w.heap.size + 1, 0, none⟩) 2 2], .slice none 0 0, .int .i64 9] W (RunA ([0, 1], 1, [0, 5, 0, 0, 0, 0, 0, 0], [], 0) W) := fun W h1 h2 => by
    have := run_any H 9 W h1 h2
    rw [hH] at this
    rwa [exM9] at this
  have hrch : ∀ W, Ops W → HdAt W H → Calls Tryd.prog 14 #[.agg #[.int .i64 0, .int .i64 0, .int .i64 0, .slice none 0 0, .slice (some ⟨w.heap.size, 0, none⟩) 1 1, .slice (some ⟨w.heap.size + 1, 0, none⟩) 2 2], .slice none 0 0, .int .i64 1, .int .i64 1] W fun e w' => e = .returned (.tuple #[.int .i64 1, .bool true]) ∧ Below W.heap.size W w' := fun W h1 h2 => by
    have := reach_any' H 1 1 W h1 h2
    rw [hH] at this
    rwa [exN, exB2] at this
  have HO := Lib.hid ho
  have HI := Lib.hid hI
  have HAA := Lib.hid hA
  have HRUN := Lib.hid hrun
  have HRCH := Lib.hid hrch
  clear ho hI hA hrun hrch hH
  go_enter Tryd.func10, Tryd.ntmps10
  go_wp2_with fail
  refine (HRUN.out _ (HO.out.below (HI.out _) hp) (HAA.out _)).mono ?_
  rintro e v ⟨pA, pcap, mA, mcap, rfl, hin, hby, hbv⟩
  have hBv := (HI.out _).trans (hbv.mono (HI.out _).size)
  have hHv := (HAA.out _).below hbv
  have q0 : v.cell? ⟨w.heap.size + 1 + 1, 0, none⟩ = some (.int .i64 0) := cells_below hbv (row_cell (three _ _ _ _).2.2 0) (by simp)
  have q1 : v.cell? ⟨w.heap.size + 1 + 1, 1, none⟩ = some (.int .i64 0) := cells_below hbv (row_cell (three _ _ _ _).2.2 1) (by simp)
  have q2 : v.cell? ⟨w.heap.size + 1 + 1, 2, none⟩ = some (.int .i64 0) := cells_below hbv (row_cell (three _ _ _ _).2.2 2) (by simp)
  have q3 : v.cell? ⟨w.heap.size + 1 + 1, 3, none⟩ = some (.slice none 0 0) := cells_below hbv (row_cell (three _ _ _ _).2.2 3) (by simp)
  have q4 : v.cell? ⟨w.heap.size + 1 + 1, 4, none⟩ = some (.slice (some ⟨w.heap.size, 0, none⟩) 1 1) := cells_below hbv (row_cell (three _ _ _ _).2.2 4) (by simp)
  have q5 : v.cell? ⟨w.heap.size + 1 + 1, 5, none⟩ = some (.slice (some ⟨w.heap.size + 1, 0, none⟩) 2 2) := cells_below hbv (row_cell (three _ _ _ _).2.2 5) (by simp)
  obtain ⟨b, o, rfl, hb, hx⟩ := hin.mem (by show 0 < 2; omega)
  have hx1 := hx 1 (by show 1 < 2; omega)
  simp at hx1
  simp only [trC, List.getD_cons_zero, List.getD_cons_succ, List.length_cons, List.length_nil]
  have hvs : w.heap.size + 1 + 1 < v.heap.size := by have := hbv.size; simp at this; omega
  have hne : w.heap.size + 1 + 1 ≠ v.heap.size := by omega
  have HX1 := Lib.hid hx1
  have HB := Lib.hid hb
  have HBV := Lib.hid hBv
  have HHV := Lib.hid hHv
  have hbo : ∀ x, Below v.heap.size v (v.alloc x) := fun x => Below.box v x
  have HBO := Lib.hid hbo
  clear hin hby hbv hBv hHv hb hx hx1 hbo
  go_wp2_with fail
  refine (HRCH.out _ (HO.out.below (HBV.out.trans ((HBO.out _).mono HBV.out.size)) hp) (HHV.out.below (HBO.out _))).mono ?_
  rintro e v2 ⟨rfl, hb2⟩
  have hb3 := (HBO.out _).trans (hb2.mono (by simp))
  have t0 := cells_below hb2 (row_cell (heap_newM rfl) 0) (by simp)
  have t1 := cells_below hb2 (row_cell (heap_newM rfl) 1) (by simp)
  have t3 := cells_below hb2 (row_cell (heap_newM rfl) 3) (by simp)
  simp at t0 t1 t3
  have hx1 := (hb3.cell (p := ⟨b, o + 1, none⟩) HB.out).trans HX1.out
  have HB3 := Lib.hid (HBV.out.trans (hb3.mono HBV.out.size))
  clear hb2 hb3 q0 q1 q2 q3 q4 q5
  go_wp2
  go_ret
  exact ⟨rfl, HB3.out⟩
end Go.Proofs.YthkhadbeomkihaaDoor
