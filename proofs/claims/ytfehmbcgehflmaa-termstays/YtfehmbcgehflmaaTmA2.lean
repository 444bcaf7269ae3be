/-
  Contracts of New, the counter, Len, Asked, has.
-/
import Derived.Test.YtfehmbcgehflmaaTmA1
namespace Go.Proofs.Ytfehmbcgehflmaa
set_option linter.unusedSimpArgs false
set_option linter.unusedVariables false
open Go.RowKit Go.Maps

set_option maxRecDepth 20000 in
set_option maxHeartbeats 1000000 in
theorem new_core (w : World) : Calls Try.prog 14 #[] w fun e w' => e = .returned (.pointer (some ⟨w.heap.size + 1, 0, none⟩)) ∧ w' = (w.alloc (.map #[] 0)).alloc (.cells #[.slice none 0 0, .map (some w.heap.size), .int .i64 0] 61) := by
  have hmm := @run_makeMap Try.prog
  go_enter Try.func14, Try.ntmps14
  go_wp2
  go_ret
  exact ⟨rfl, rfl⟩

theorem new_any (w : World) : Calls Try.prog 14 #[] w fun e w' => ∃ g bm, e = .returned (.pointer (some ⟨g, 0, none⟩)) ∧ Ar w' g bm none 0 [] 0 ∧ Below w.heap.size w w' ∧ w.heap.size ≤ g ∧ w.heap.size ≤ bm := by
  refine (new_core w).mono fun e w' ⟨he, hw⟩ => ?_
  subst hw
  have hm : (w.alloc (.map #[] 0)).heap[w.heap.size]? = some (.map #[] 0) := (MapKept.heap_alloc w _).1
  have hs : (w.alloc (.map #[] 0)).heap.size = w.heap.size + 1 := by simp
  have hb := Blk.new (w.alloc (.map #[] 0)) #[.slice none 0 0, .map (some w.heap.size), .int .i64 0] 61
  rw [hs] at hb
  have bel := Below.box (w.alloc (.map #[] 0)) (.cells #[.slice none 0 0, .map (some w.heap.size), .int .i64 0] 61)
  refine ⟨w.heap.size + 1, w.heap.size, he, ⟨hb, World.ownsRow_nil _ _ _ _, ?_, fun x hx => absurd hx (by simp), List.nodup_nil, fun j hj => absurd hj (by simp)⟩, ((Below.refl _ _).alloc (Nat.le_refl _) _).alloc (by simp) _, by omega, Nat.le_refl _⟩
  refine ⟨.map [], (World.ownsMap_made w Try.prog 38 (plainElem Try.prog 3)).alloc _, isMap_empty, fun nd l hl => ⟨fun h => absurd h (by simp), fun _ => rfl⟩⟩

set_option maxRecDepth 20000 in
set_option maxHeartbeats 1000000 in
theorem add_core (g : Nat) (q : Nat) (w : World) (hc : w.cell? ⟨g, 2, none⟩ = some (.int .i64 q)) (hf : w.frozen? ⟨g, 2, none⟩ = false) (hq : q < 1000000000) :
    Calls Try.prog 27 #[.pointer (some ⟨g, 2, none⟩), .int .i64 1] w fun e w' => e = .returned (.int .i64 ((q + 1 : Nat) : Int)) ∧ w' = w.setCell ⟨g, 2, none⟩ (.int .i64 ((q + 1 : Nat) : Int)) := by
  have hs : (Op.intArith .add .i64 q 1).run Try.prog w = .ok (.int .i64 ((q + 1 : Nat) : Int)) w := by
    simp [Op.intArith]
    rw [IntKind.wrap_i64]
    omega
  have hadd := run_call_add (P := Try.prog) Try.func39 (by kernel_rfl) (by kernel_rfl) (by kernel_rfl) .i64 (by kernel_rfl) (y := 1) hc hf hs
  clear hs
  generalize ((q + 1 : Nat) : Int) = Z at hadd ⊢
  go_enter Try.func27, Try.ntmps27
  go_wp2
  go_ret
  exact ⟨rfl, rfl⟩

set_option maxRecDepth 20000 in
theorem load_core (g : Nat) (q : Int) (w : World) (hc : w.cell? ⟨g, 2, none⟩ = some (.int .i64 q)) :
    Calls Try.prog 29 #[.pointer (some ⟨g, 2, none⟩)] w fun e w' => e = .returned (.int .i64 q) ∧ w = w' := by
  have hadd := run_call_load (P := Try.prog) Try.func40 (by kernel_rfl) (by kernel_rfl) (by kernel_rfl) .i64 (by kernel_rfl) hc
  go_enter Try.func29, Try.ntmps29
  go_wp2
  go_ret
  exact ⟨rfl, rfl⟩

section
variable {w : World} {g bm : Nat} {A : Option Addr} {cap : Nat} {X : List Tm.Nd} {q : Nat}
set_option maxRecDepth 20000 in
theorem asked_any (h : Ar w g bm A cap X q) : Calls Try.prog 18 #[.pointer (some ⟨g, 0, none⟩)] w fun e w' => e = .returned (.int .i64 q) ∧ w = w' := by
  have c2 : w.cell? ⟨g, 2, none⟩ = some (.int .i64 q) := h.blk.c 2
  clear h
  go_enter Try.func18, Try.ntmps18
  go_wp2_with (go_at_call 29; refine (load_core g q w c2).mono ?_; rintro e w' ⟨rfl, rfl⟩)
  go_ret
  exact ⟨rfl, rfl⟩

set_option maxRecDepth 20000 in
theorem len_any (h : Ar w g bm A cap X q) : Calls Try.prog 17 #[.pointer (some ⟨g, 0, none⟩)] w fun e w' => e = .returned (.int .i64 X.length) ∧ w = w' := by
  have c0 : w.cell? ⟨g, 0, none⟩ = some (.slice A X.length cap) := h.blk.c 0
  clear h
  generalize X.length = n at c0 ⊢
  go_enter Try.func17, Try.ntmps17
  go_wp2
  go_ret
  exact ⟨rfl, rfl⟩

set_option maxRecDepth 20000 in
theorem has_any (h : Ar w g bm A cap X q) (p : Int) : Calls Try.prog 30 #[.pointer (some ⟨g, 0, none⟩), .int .i64 p] w fun e w' => e = .returned (.bool (Tm.inn p X.length)) ∧ w = w' := by
  have c0 : w.cell? ⟨g, 0, none⟩ = some (.slice A X.length cap) := h.blk.c 0
  clear h
  generalize X.length = n at c0 ⊢
  by_cases h1 : 0 ≤ p
  · by_cases h2 : p < n
    · rw [Tm.inn_iff.2 ⟨h1, h2⟩]
      go_enter Try.func30, Try.ntmps30
      go_wp2
      go_ret
      exact ⟨rfl, rfl⟩
    · have e : Tm.inn p n = false := by rw [← Bool.not_eq_true, Tm.inn_iff]; omega
      rw [e]
      clear e
      go_enter Try.func30, Try.ntmps30
      go_wp2
      go_ret
      exact ⟨rfl, rfl⟩
  · have e : Tm.inn p n = false := by rw [← Bool.not_eq_true, Tm.inn_iff]; omega
    rw [e]
    clear e
    go_enter Try.func30, Try.ntmps30
    go_wp2
    go_ret
    exact ⟨rfl, rfl⟩
end
end Go.Proofs.Ytfehmbcgehflmaa
