/-
  The contract of newRunner.
-/
import Derived.Test.YthkhadbeomkihaaDoorMc12
namespace Go.Proofs.YthkhadbeomkihaaDoor
set_option maxRecDepth 100000
open Go.RowKit

set_option maxRecDepth 20000 in
set_option maxHeartbeats 3200000 in
theorem newRunner_any (mem stk inp : Int) (Ad : Option Addr) (ld cd : Nat) (Af : Option Addr) (lf cf : Nat) (Ac : Option Addr) (lc cc : Nat) (Ai : Option Addr) (li ci : Nat) (pl r0 r1 r2 r3 r4 r5 r6 r7 : Int) (M O : Value) (w : World) :
    Calls Tryd.prog 29 #[.agg #[.int .i64 mem, .int .i64 stk, .int .i64 inp, .slice Ad ld cd, .slice Af lf cf, .slice Ac lc cc], .slice Ai li ci, .agg #[.int .i64 pl, .int .u64 r0, .int .u64 r1, .int .u64 r2, .int .u64 r3, .int .u64 r4, .int .u64 r5, .int .u64 r6, .int .u64 r7, M, O]] w fun e w' => ∃ g, e = .returned (.pointer (some ⟨g, 0, none⟩)) ∧ w.heap.size ≤ g ∧ RnB w' g #[.int .i64 mem, .int .i64 stk, .int .i64 inp, .slice Ad ld cd, .slice Af lf cf, .slice Ac lc cc, .slice Ai li ci, .int .i64 pl, .int .u64 r0, .int .u64 r1, .int .u64 r2, .int .u64 r3, .int .u64 r4, .int .u64 r5, .int .u64 r6, .int .u64 r7, M, O, .int .i64 0, .func (.func 68) #[] #[], .func (.func 69) #[] #[], .func (.func 70) #[] #[], .func (.func 71) #[] #[], .func (.func 71) #[] #[], .func (.func 71) #[] #[], .func (.func 72) #[] #[], .func (.func 72) #[] #[], .func (.func 71) #[] #[], .func (.func 71) #[] #[], .func (.func 71) #[] #[], .func (.func 71) #[] #[], .func (.func 71) #[] #[], .func (.func 71) #[] #[], .func (.func 71) #[] #[], .func (.func 71) #[] #[], .func (.func 71) #[] #[], .func (.func 73) #[] #[], .func (.func 74) #[] #[], .func (.func 75) #[] #[], .func (.func 76) #[] #[], .func (.func 77) #[] #[], .func (.func 78) #[] #[], .func (.func 79) #[] #[], .func (.func 80) #[] #[], .func (.func 81) #[] #[]] ∧ Below w.heap.size w w' := by
  go_enter Tryd.func29, Tryd.ntmps29
  go_wp2_with fail
  have hw : Below w.heap.size w ((w.alloc (.cells #[.int .i64 mem, .int .i64 stk, .int .i64 inp, .slice Ad ld cd, .slice Af lf cf, .slice Ac lc cc] 26)).alloc (.cells #[.int .i64 pl, .int .u64 r0, .int .u64 r1, .int .u64 r2, .int .u64 r3, .int .u64 r4, .int .u64 r5, .int .u64 r6, .int .u64 r7, M, O] 43)) := ((Below.refl _ _).alloc (Nat.le_refl _) _).alloc (by simp) _
  have h1 : ((w.alloc (.cells #[.int .i64 mem, .int .i64 stk, .int .i64 inp, .slice Ad ld cd, .slice Af lf cf, .slice Ac lc cc] 26)).alloc (.cells #[.int .i64 pl, .int .u64 r0, .int .u64 r1, .int .u64 r2, .int .u64 r3, .int .u64 r4, .int .u64 r5, .int .u64 r6, .int .u64 r7, M, O] 43)).heap[w.heap.size]? = some (.cells #[.int .i64 mem, .int .i64 stk, .int .i64 inp, .slice Ad ld cd, .slice Af lf cf, .slice Ac lc cc] 26 (0, 0)) := ((Below.box _ _).block _ (by simp)).trans (heap_newM rfl)
  have h2 : ((w.alloc (.cells #[.int .i64 mem, .int .i64 stk, .int .i64 inp, .slice Ad ld cd, .slice Af lf cf, .slice Ac lc cc] 26)).alloc (.cells #[.int .i64 pl, .int .u64 r0, .int .u64 r1, .int .u64 r2, .int .u64 r3, .int .u64 r4, .int .u64 r5, .int .u64 r6, .int .u64 r7, M, O] 43)).heap[w.heap.size + 1]? = some (.cells #[.int .i64 pl, .int .u64 r0, .int .u64 r1, .int .u64 r2, .int .u64 r3, .int .u64 r4, .int .u64 r5, .int .u64 r6, .int .u64 r7, M, O] 43 (0, 0)) := heap_newM (by simp)
  have hz : ((w.alloc (.cells #[.int .i64 mem, .int .i64 stk, .int .i64 inp, .slice Ad ld cd, .slice Af lf cf, .slice Ac lc cc] 26)).alloc (.cells #[.int .i64 pl, .int .u64 r0, .int .u64 r1, .int .u64 r2, .int .u64 r3, .int .u64 r4, .int .u64 r5, .int .u64 r6, .int .u64 r7, M, O] 43)).heap.size = w.heap.size + 2 := by simp
  generalize (w.alloc (.cells #[.int .i64 mem, .int .i64 stk, .int .i64 inp, .slice Ad ld cd, .slice Af lf cf, .slice Ac lc cc] 26)).alloc (.cells #[.int .i64 pl, .int .u64 r0, .int .u64 r1, .int .u64 r2, .int .u64 r3, .int .u64 r4, .int .u64 r5, .int .u64 r6, .int .u64 r7, M, O] 43) = w1 at *
  have HW := Lib.hid hw
  have H1 := Lib.hid h1
  have H2 := Lib.hid h2
  have HZ := Lib.hid hz
  clear hw h1 h2 hz
  refine wp_region_held_drew (S := fun W => Below w1.heap.size w1 W) (by kernel_rfl) (Below.refl _ _).drew (fun hHeld => ?_)
  refine wpAnyH_take (i := 0) (v := .agg #[.int .i64 mem, .int .i64 stk, .int .i64 inp, .slice Ad ld cd, .slice Af lf cf, .slice Ac lc cc]) rfl (by kernel_rfl) (by kernel_rfl) (by kernel_rfl) (fun _ _ _ h => h) (Or.inl ⟨by rfl, fun w9 hSw => ?_⟩) hHeld ?_
  · (try dsimp only at hSw)
    have q0 := cells_below hSw (row_cell H1.out 0) (by have := HZ.out; omega)
    have q1 := cells_below hSw (row_cell H1.out 1) (by have := HZ.out; omega)
    have q2 := cells_below hSw (row_cell H1.out 2) (by have := HZ.out; omega)
    have q3 := cells_below hSw (row_cell H1.out 3) (by have := HZ.out; omega)
    have q4 := cells_below hSw (row_cell H1.out 4) (by have := HZ.out; omega)
    have q5 := cells_below hSw (row_cell H1.out 5) (by have := HZ.out; omega)
    simp at q0 q1 q2 q3 q4 q5
    go_simp
  try simp only [List.getElem_toArray, List.getElem_cons_succ, List.getElem_cons_zero, Act.put, List.setIfInBounds_toArray, List.set_cons_zero, List.set_cons_succ]
  refine wpAnyH_take (i := 1) (v := .slice Ai li ci) rfl (by kernel_rfl) (by kernel_rfl) (by kernel_rfl) (fun _ _ _ h => h) (Or.inl ⟨by rfl, fun w9 hSw => ?_⟩) hHeld ?_
  · (try dsimp only at hSw)
    go_simp
  try simp only [List.getElem_toArray, List.getElem_cons_succ, List.getElem_cons_zero, Act.put, List.setIfInBounds_toArray, List.set_cons_zero, List.set_cons_succ]
  refine wpAnyH_take (i := 2) (v := .agg #[.int .i64 pl, .int .u64 r0, .int .u64 r1, .int .u64 r2, .int .u64 r3, .int .u64 r4, .int .u64 r5, .int .u64 r6, .int .u64 r7, M, O]) rfl (by kernel_rfl) (by kernel_rfl) (by kernel_rfl) (fun _ _ _ h => h) (Or.inl ⟨by rfl, fun w9 hSw => ?_⟩) hHeld ?_
  · (try dsimp only at hSw)
    have q0 := cells_below hSw (row_cell H2.out 0) (by have := HZ.out; omega)
    have q1 := cells_below hSw (row_cell H2.out 1) (by have := HZ.out; omega)
    have q2 := cells_below hSw (row_cell H2.out 2) (by have := HZ.out; omega)
    have q3 := cells_below hSw (row_cell H2.out 3) (by have := HZ.out; omega)
    have q4 := cells_below hSw (row_cell H2.out 4) (by have := HZ.out; omega)
    have q5 := cells_below hSw (row_cell H2.out 5) (by have := HZ.out; omega)
    have q6 := cells_below hSw (row_cell H2.out 6) (by have := HZ.out; omega)
    have q7 := cells_below hSw (row_cell H2.out 7) (by have := HZ.out; omega)
    have q8 := cells_below hSw (row_cell H2.out 8) (by have := HZ.out; omega)
    have q9 := cells_below hSw (row_cell H2.out 9) (by have := HZ.out; omega)
    have q10 := cells_below hSw (row_cell H2.out 10) (by have := HZ.out; omega)
    simp at q0 q1 q2 q3 q4 q5 q6 q7 q8 q9 q10
    go_simp
  try simp only [List.getElem_toArray, List.getElem_cons_succ, List.getElem_cons_zero, Act.put, List.setIfInBounds_toArray, List.set_cons_zero, List.set_cons_succ]
  refine wpAnyH_ready (rs := [3]) (by kernel_rfl) (by simp) ?_
  refine (AllReadyH.cons rfl (fun K hK => ?_) AllReadyH.nil)
  go_simp
  go_at_call 46
  refine (makeActions_any _).mono ?_
  rintro e v ⟨rfl, hbv⟩
  refine hK.out _ _ ((Below.refl _ _).drew.trans hbv) (fun hHeld => ?_)
  clear hK K
  try simp only [List.getElem_toArray, List.getElem_cons_succ, List.getElem_cons_zero, Act.put, List.setIfInBounds_toArray, List.set_cons_zero, List.set_cons_succ]
  refine wpAnyH_take (i := 4) (v := .agg #[.int .i64 mem, .int .i64 stk, .int .i64 inp, .slice Ad ld cd, .slice Af lf cf, .slice Ac lc cc, .slice Ai li ci, .int .i64 pl, .int .u64 r0, .int .u64 r1, .int .u64 r2, .int .u64 r3, .int .u64 r4, .int .u64 r5, .int .u64 r6, .int .u64 r7, M, O, .int .i64 0, .func (.func 68) #[] #[], .func (.func 69) #[] #[], .func (.func 70) #[] #[], .func (.func 71) #[] #[], .func (.func 71) #[] #[], .func (.func 71) #[] #[], .func (.func 72) #[] #[], .func (.func 72) #[] #[], .func (.func 71) #[] #[], .func (.func 71) #[] #[], .func (.func 71) #[] #[], .func (.func 71) #[] #[], .func (.func 71) #[] #[], .func (.func 71) #[] #[], .func (.func 71) #[] #[], .func (.func 71) #[] #[], .func (.func 71) #[] #[], .func (.func 73) #[] #[], .func (.func 74) #[] #[], .func (.func 75) #[] #[], .func (.func 76) #[] #[], .func (.func 77) #[] #[], .func (.func 78) #[] #[], .func (.func 79) #[] #[], .func (.func 80) #[] #[], .func (.func 81) #[] #[]]) rfl (by kernel_rfl) (by kernel_rfl) (by kernel_rfl) (fun _ _ _ h => h) (Or.inl ⟨by rfl, fun w9 hSw => ?_⟩) hHeld ?_
  · (try dsimp only at hSw)
    go_simp
  try simp only [List.getElem_toArray, List.getElem_cons_succ, List.getElem_cons_zero, Act.put, List.setIfInBounds_toArray, List.set_cons_zero, List.set_cons_succ]
  refine wpAnyH_ready (rs := [5]) (by kernel_rfl) (by simp) ?_
  refine (AllReadyH.cons rfl (fun K hK => ?_) AllReadyH.nil)
  go_simp
  have hB : Below w1.heap.size w1 (v.alloc (.cells #[.int .i64 mem, .int .i64 stk, .int .i64 inp, .slice Ad ld cd, .slice Af lf cf, .slice Ac lc cc, .slice Ai li ci, .int .i64 pl, .int .u64 r0, .int .u64 r1, .int .u64 r2, .int .u64 r3, .int .u64 r4, .int .u64 r5, .int .u64 r6, .int .u64 r7, M, O, .int .i64 0, .func (.func 68) #[] #[], .func (.func 69) #[] #[], .func (.func 70) #[] #[], .func (.func 71) #[] #[], .func (.func 71) #[] #[], .func (.func 71) #[] #[], .func (.func 72) #[] #[], .func (.func 72) #[] #[], .func (.func 71) #[] #[], .func (.func 71) #[] #[], .func (.func 71) #[] #[], .func (.func 71) #[] #[], .func (.func 71) #[] #[], .func (.func 71) #[] #[], .func (.func 71) #[] #[], .func (.func 71) #[] #[], .func (.func 71) #[] #[], .func (.func 73) #[] #[], .func (.func 74) #[] #[], .func (.func 75) #[] #[], .func (.func 76) #[] #[], .func (.func 77) #[] #[], .func (.func 78) #[] #[], .func (.func 79) #[] #[], .func (.func 80) #[] #[], .func (.func 81) #[] #[]] 71)) := hHeld.alloc hHeld.size _
  have hN : (v.alloc (.cells #[.int .i64 mem, .int .i64 stk, .int .i64 inp, .slice Ad ld cd, .slice Af lf cf, .slice Ac lc cc, .slice Ai li ci, .int .i64 pl, .int .u64 r0, .int .u64 r1, .int .u64 r2, .int .u64 r3, .int .u64 r4, .int .u64 r5, .int .u64 r6, .int .u64 r7, M, O, .int .i64 0, .func (.func 68) #[] #[], .func (.func 69) #[] #[], .func (.func 70) #[] #[], .func (.func 71) #[] #[], .func (.func 71) #[] #[], .func (.func 71) #[] #[], .func (.func 72) #[] #[], .func (.func 72) #[] #[], .func (.func 71) #[] #[], .func (.func 71) #[] #[], .func (.func 71) #[] #[], .func (.func 71) #[] #[], .func (.func 71) #[] #[], .func (.func 71) #[] #[], .func (.func 71) #[] #[], .func (.func 71) #[] #[], .func (.func 71) #[] #[], .func (.func 73) #[] #[], .func (.func 74) #[] #[], .func (.func 75) #[] #[], .func (.func 76) #[] #[], .func (.func 77) #[] #[], .func (.func 78) #[] #[], .func (.func 79) #[] #[], .func (.func 80) #[] #[], .func (.func 81) #[] #[]] 71)).heap[v.heap.size]? = some (.cells #[.int .i64 mem, .int .i64 stk, .int .i64 inp, .slice Ad ld cd, .slice Af lf cf, .slice Ac lc cc, .slice Ai li ci, .int .i64 pl, .int .u64 r0, .int .u64 r1, .int .u64 r2, .int .u64 r3, .int .u64 r4, .int .u64 r5, .int .u64 r6, .int .u64 r7, M, O, .int .i64 0, .func (.func 68) #[] #[], .func (.func 69) #[] #[], .func (.func 70) #[] #[], .func (.func 71) #[] #[], .func (.func 71) #[] #[], .func (.func 71) #[] #[], .func (.func 72) #[] #[], .func (.func 72) #[] #[], .func (.func 71) #[] #[], .func (.func 71) #[] #[], .func (.func 71) #[] #[], .func (.func 71) #[] #[], .func (.func 71) #[] #[], .func (.func 71) #[] #[], .func (.func 71) #[] #[], .func (.func 71) #[] #[], .func (.func 71) #[] #[], .func (.func 73) #[] #[], .func (.func 74) #[] #[], .func (.func 75) #[] #[], .func (.func 76) #[] #[], .func (.func 77) #[] #[], .func (.func 78) #[] #[], .func (.func 79) #[] #[], .func (.func 80) #[] #[], .func (.func 81) #[] #[]] 71 (0, 0)) := heap_newM rfl
  have hs := hHeld.size
  generalize v.alloc (.cells #[.int .i64 mem, .int .i64 stk, .int .i64 inp, .slice Ad ld cd, .slice Af lf cf, .slice Ac lc cc, .slice Ai li ci, .int .i64 pl, .int .u64 r0, .int .u64 r1, .int .u64 r2, .int .u64 r3, .int .u64 r4, .int .u64 r5, .int .u64 r6, .int .u64 r7, M, O, .int .i64 0, .func (.func 68) #[] #[], .func (.func 69) #[] #[], .func (.func 70) #[] #[], .func (.func 71) #[] #[], .func (.func 71) #[] #[], .func (.func 71) #[] #[], .func (.func 72) #[] #[], .func (.func 72) #[] #[], .func (.func 71) #[] #[], .func (.func 71) #[] #[], .func (.func 71) #[] #[], .func (.func 71) #[] #[], .func (.func 71) #[] #[], .func (.func 71) #[] #[], .func (.func 71) #[] #[], .func (.func 71) #[] #[], .func (.func 71) #[] #[], .func (.func 73) #[] #[], .func (.func 74) #[] #[], .func (.func 75) #[] #[], .func (.func 76) #[] #[], .func (.func 77) #[] #[], .func (.func 78) #[] #[], .func (.func 79) #[] #[], .func (.func 80) #[] #[], .func (.func 81) #[] #[]] 71) = w2 at *
  refine hK.out _ _ hB (fun hHeld => ?_)
  clear hK K
  try simp only [List.getElem_toArray, List.getElem_cons_succ, List.getElem_cons_zero, Act.put, List.setIfInBounds_toArray, List.set_cons_zero, List.set_cons_succ]
  refine wpAnyH_take (i := 6) (v := .pointer (some ⟨v.heap.size, 0, none⟩)) rfl (by kernel_rfl) (by kernel_rfl) (by kernel_rfl) (fun _ _ _ h => h) (Or.inl ⟨by rfl, fun w9 hSw => ?_⟩) hHeld ?_
  · (try dsimp only at hSw)
    go_simp
  try simp only [List.getElem_toArray, List.getElem_cons_succ, List.getElem_cons_zero, Act.put, List.setIfInBounds_toArray, List.set_cons_zero, List.set_cons_succ]
  refine wpAnyH_done (by kernel_rfl) ?_ _
  go_wp2
  go_ret
  exact ⟨v.heap.size, rfl, by have := HZ.out; omega, hN, HW.out.trans (hB.mono (by have := HZ.out; omega))⟩
end Go.Proofs.YthkhadbeomkihaaDoor
