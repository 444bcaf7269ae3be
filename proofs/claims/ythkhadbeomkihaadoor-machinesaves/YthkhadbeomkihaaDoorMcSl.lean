/-
  Parts of a slice of bytes as strings.
-/
import Derived.Test.YthkhadbeomkihaaDoorMc23
namespace Go.Proofs.YthkhadbeomkihaaDoor
set_option maxRecDepth 100000
open Go.RowKit

theorem elem22 : Tryd.prog.underlying 22 = some (.slice (Tryd.prog.elem 22)) := by kernel_rfl
theorem size22 (W : World) : (sizeOf (Tryd.prog.elem 22)).run Tryd.prog W = .ok 1 W := by kernel_rfl
theorem cut_hi (A : Option Addr) (n cap k : Nat) (hk : k ≤ n) (hc : n ≤ cap) :
    ∃ V, (∀ W, (Instr.slice 22 (.slice A n cap) none (some (.int .i64 (k : Int))) none).run Tryd.prog W = .ok V W) ∧ ∀ W xs, BySl W A n cap xs → (convert 22 9 V).run Tryd.prog W = .ok (.string (strOfNums (xs.take k))) W := by
  refine ⟨sliced A 0 k cap 1, fun W => ?_, fun W xs h => ?_⟩
  · rw [run_slice_h W 22 A n cap elem22 .i64 k (by omega) (by omega), size22]
    simp
  · have hb : BySl W (if cap = 0 then A else A.map (·.add (0 * 1))) k cap (xs.take k) := by
      refine ⟨by rw [List.length_take, h.hlen]; omega, by omega, h.hcap, fun e => ?_, isB_of fun y hy => Im.mem_isB h.isB (List.mem_of_mem_take hy), fun h0 => ?_⟩
      · split at e
        · omega
        · have : A = none := by cases A <;> simp_all
          have := h.hnone this
          omega
      · obtain ⟨b, o, rfl, hb, hx⟩ := h.mem (by omega)
        refine ⟨b, o, by rw [if_neg (by omega)]; rfl, hb, fun i hi => ?_⟩
        rw [List.length_take] at hi
        rw [hx i (by rw [h.hlen]; omega), List.getD_eq_getElem?_getD, List.getD_eq_getElem?_getD, List.getElem?_take_of_lt (by omega)]
    have := by_str hb
    simpa [sliced] using this
theorem cut_lo (A : Option Addr) (n cap l : Nat) (hl : l ≤ n) (hc : n ≤ cap) :
    ∃ V, (∀ W, (Instr.slice 22 (.slice A n cap) (some (.int .i64 (l : Int))) none none).run Tryd.prog W = .ok V W) ∧ ∀ W xs, BySl W A n cap xs → (convert 22 9 V).run Tryd.prog W = .ok (.string (strOfNums (xs.drop l))) W := by
  refine ⟨sliced A l n cap 1, fun W => ?_, fun W xs h => ?_⟩
  · rw [run_slice_l W 22 A n cap elem22 .i64 l (by omega) (by omega), size22]
    simp
  · have hb : BySl W (if cap = l then A else A.map (·.add (l * 1))) (n - l) (cap - l) (xs.drop l) := by
      refine ⟨by rw [List.length_drop, h.hlen], by omega, Nat.le_trans (Nat.sub_le _ _) h.hcap, fun e => ?_, isB_of fun y hy => Im.mem_isB h.isB (List.mem_of_mem_drop hy), fun h0 => ?_⟩
      · split at e
        · omega
        · have : A = none := by cases A <;> simp_all
          have := h.hnone this
          omega
      · obtain ⟨b, o, rfl, hb, hx⟩ := h.mem (by omega)
        refine ⟨b, o + l, by rw [if_neg (by omega)]; simp [Addr.add], hb, fun i hi => ?_⟩
        rw [List.length_drop, h.hlen] at hi
        have := hx (l + i) (by rw [h.hlen]; omega)
        rw [add_at] at this ⊢
        rw [Nat.add_assoc, this, List.getD_eq_getElem?_getD, List.getD_eq_getElem?_getD, List.getElem?_drop]
    have := by_str hb
    simpa [sliced] using this
end Go.Proofs.YthkhadbeomkihaaDoor
