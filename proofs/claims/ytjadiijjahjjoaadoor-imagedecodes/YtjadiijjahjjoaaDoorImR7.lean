/-
  The deferred function of Decode, and Decode.
-/
import Derived.Test.YtjadiijjahjjoaaDoorImR6
import Derived.Defers
import Derived.Recover
namespace Go.Proofs.YtjadiijjahjjoaaDoor
open Go.RowKit

/-- An image whose blocks are as they were. -/
theorem ImAt.move {W W' : World} {Ad : Option Addr} {ld cd : Nat} {Af : Option Addr} {lf cf : Nat} {Ac : Option Addr} {lc cc : Nat} {p : Im.Pic} {M : Nat} (h : ImAt W Ad ld cd Af lf cf Ac lc cc p) (hs : W.heap.size ≤ W'.heap.size) (k1 : ∀ b o s, Ad = some ⟨b, o, s⟩ → M ≤ b) (k2 : ∀ b o s, Af = some ⟨b, o, s⟩ → M ≤ b) (k3 : ∀ b o s, Ac = some ⟨b, o, s⟩ → M ≤ b)
    (hk : ∀ k, M ≤ k → k < W.heap.size → W'.heap[k]? = W.heap[k]?) : ImAt W' Ad ld cd Af lf cf Ac lc cc p := by
  refine ⟨⟨h.d.hlen, h.d.hle, h.d.hcap, h.d.hnone, h.d.isB, fun h0 => ?_⟩, ⟨h.f.hlen, h.f.hle, h.f.hcap, h.f.hnone, fun h0 => ?_⟩, ⟨h.c.hlen, h.c.hle, h.c.hcap, h.c.hnone, h.c.rng, fun h0 => ?_⟩⟩
  · obtain ⟨b, o, e, hlt, hx⟩ := h.d.mem h0
    refine ⟨b, o, e, by omega, fun i hi => ?_⟩
    have := hx i hi
    rw [add_at] at this ⊢
    exact (World.cell?_of_block (w := W) (hk b (k1 b o none e) hlt)).trans this
  · obtain ⟨b, o, e, hlt, hx⟩ := h.f.mem h0
    exact ⟨b, o, e, by omega, fun i hi => (World.cell?_of_block (w := W) (hk b (k2 b o none e) hlt)).trans (hx i hi)⟩
  · obtain ⟨b, o, e, hlt, hx⟩ := h.c.mem h0
    exact ⟨b, o, e, by omega, fun i hi => (hx i hi).keep fun o' => World.cell?_of_block (w := W) (hk b (k3 b o none e) hlt)⟩

set_option maxHeartbeats 800000 in
theorem catch_panicking (g h : Nat) (E a : Int) (w : World) (ce : w.cell? ⟨g, 0, none⟩ = some (.int .i64 0)) (ca : w.cell? ⟨h, 0, none⟩ = some (.int .i64 0)) (fe : w.frozen? ⟨g, 0, none⟩ = false) (fa : w.frozen? ⟨h, 0, none⟩ = false) (hgh : g ≠ h) (hg : g < w.heap.size) (hh : h < w.heap.size) :
    CallsD Tryd.prog 25 #[.pointer (some ⟨g, 0, none⟩), .pointer (some ⟨h, 0, none⟩)] (.panicking ({ v := .iface 53 (.agg #[.int .i64 E, .int .i64 a]), recovered := false } :: [])) w fun e u' w' =>
      e = .returned (.tuple #[]) ∧ u' = .panicking ({ v := .iface 53 (.agg #[.int .i64 E, .int .i64 a]), recovered := true } :: []) ∧ w' = (((w.setCell ⟨g, 0, none⟩ (.int .i64 E)).setCell ⟨h, 0, none⟩ (.int .i64 a)).alloc (.cells #[.int .i64 E, .int .i64 a] 53)).drew := by
  have hta : ∀ w : World, (Instr.typeAssert (.iface 53 (.agg #[.int .i64 E, .int .i64 a])) 20 53 true).run Tryd.prog w = .ok (.tuple #[.agg #[.int .i64 E, .int .i64 a], .bool true]) w := fun _ => by kernel_rfl
  refine callsD_of_wpS Tryd.func25 rfl fun c₀ cs hu => ?_
  apply wpS_seq
  apply wpS_region
  simp [wpOpsS, go_sem, recoverD, hu, Tryd.ntmps25, Exit.thenS, hta, Array.replicate]
  refine wpS_of_wp ?_
  have hne1 : ¬ g = w.heap.size := by omega
  have hne2 : ¬ h = w.heap.size := by omega
  have hne3 : ¬ w.heap.size = g := by omega
  have hne4 : ¬ w.heap.size = h := by omega
  go_wp2_with fail
  go_region
  exact ⟨rfl, _, rfl, .tuple #[], results_none rfl _ _ _, rfl, rfl, rfl⟩

set_option maxHeartbeats 800000 in
theorem catch_idle (p q : Addr) (w : World) :
    CallsD Tryd.prog 25 #[.pointer (some p), .pointer (some q)] .returning w fun e u' w' => e = .returned (.tuple #[]) ∧ u' = .returning ∧ w' = w.alloc (.cells #[.int .i64 0, .int .i64 0] 53) := by
  have hta : ∀ w : World, (Instr.typeAssert .nilIface 20 53 true).run Tryd.prog w = .ok (.tuple #[.agg #[.int .i64 0, .int .i64 0], .bool false]) w := fun _ => by kernel_rfl
  refine callsD_of_wpS Tryd.func25 rfl fun c₀ cs hu => ?_
  apply wpS_seq
  apply wpS_region
  simp [wpOpsS, go_sem, recoverD, hu, Tryd.ntmps25, Exit.thenS, hta, Array.replicate]
  refine wpS_of_wp ?_
  go_wp2_with fail
  cases c₀
  simp only at hu
  subst hu
  exact ⟨rfl, _, rfl, .tuple #[], results_none rfl _ _ _, rfl, rfl, rfl⟩

theorem res13 (W : World) (G : Nat) (a b c d e f x1 x2 y0 y1 y5 y6 y7 y8 y9 : Value) (h0 : PB W G a b c d e f) (h1 : W.cell? ⟨G + 1, 0, none⟩ = some x1) (h2 : W.cell? ⟨G + 1 + 1, 0, none⟩ = some x2) :
    (results Tryd.f13 #[y0, y1, .pointer (some ⟨G, 0, none⟩), .pointer (some ⟨G + 1, 0, none⟩), .pointer (some ⟨G + 1 + 1, 0, none⟩), y5, y6, y7, y8, y9]).run Tryd.prog W = .ok (.tuple #[.agg #[a, b, c, d, e, f], x1, x2]) W := by
  have c0 := h0.c0
  have c1 := h0.c1
  have c2 := h0.c2
  have c3 := h0.c3
  have c4 := h0.c4
  have c5 := h0.c5
  simp [results, Tryd.results13, go_sem, *]
theorem cell_blk {W : World} {G : Nat} {x : Value} {t : TypeId} (h : W.heap[G]? = some (.cells #[x] t)) : W.cell? ⟨G, 0, none⟩ = some x := by rw [cell_of_row _ _ _ _ _ _ h]; rfl

/-- What Decode answers. -/
def DecP (xs : List Int) (w : World) (e : Ending) (w' : World) : Prop :=
  Below w.heap.size w w' ∧ ((∃ a b, Im.dE xs = (a, b) ∧ a ≠ 0 ∧ e = .returned (.tuple #[.agg #[.int .i64 0, .int .i64 0, .int .i64 0, .slice none 0 0, .slice none 0 0, .slice none 0 0], .int .i64 a, .int .i64 b])) ∨
    (Im.dE xs = (0, 0) ∧ ∃ Ad ld cd Af lf cf Ac lc cc, e = .returned (.tuple #[.agg #[.int .i64 (Im.num xs 5 1), .int .i64 (Im.num xs 6 1), .int .i64 (Im.num xs 7 1), .slice Ad ld cd, .slice Af lf cf, .slice Ac lc cc], .int .i64 0, .int .i64 0]) ∧ ImAt w' Ad ld cd Af lf cf Ac lc cc (Im.pic xs)))

set_option maxRecDepth 10000 in
set_option maxHeartbeats 1600000 in
theorem decode_any (A : Option Addr) (len cap : Nat) (xs : List Int) (w : World) (ho : Ops w) (hx : BySl w A len cap xs) (hl : len ≤ 1000000000000) :
    Calls Tryd.prog 13 #[.slice A len cap] w (DecP xs w) := by
  have hmf : ∀ (fn : Fn) (first cap : Array Value) (w : World), (Instr.makeFunc fn first cap).run Tryd.prog w = .ok (.func fn first cap) w := fun _ _ _ _ => rfl
  have hp := ho.pos
  have W0 : Below w.heap.size w ((((w.alloc (.cells #[.int .i64 0, .int .i64 0, .int .i64 0, .slice none 0 0, .slice none 0 0, .slice none 0 0] 26)).alloc (.cells #[.int .i64 0] 29)).alloc (.cells #[.int .i64 0] 3)).alloc (.cells #[.slice A len cap, .int .i64 0] 56)) :=
    ((((Below.refl _ _).alloc (Nat.le_refl _) _).alloc (by simp) _).alloc (by simp; omega) _).alloc (by simp; omega) _
  have HO := Lib.hid (ho.below W0 hp)
  have hB := hx.below W0
  have HX := Lib.hid (show ByR (w.heap.size + 1 + 1 + 1) ((((w.alloc (.cells #[.int .i64 0, .int .i64 0, .int .i64 0, .slice none 0 0, .slice none 0 0, .slice none 0 0] 26)).alloc (.cells #[.int .i64 0] 29)).alloc (.cells #[.int .i64 0] 3)).alloc (.cells #[.slice A len cap, .int .i64 0] 56)) A len cap xs from ⟨hB, fun h0 b o s e => by
    obtain ⟨b', o', e', hlt, _⟩ := hx.mem h0
    rw [e'] at e
    simp only [Option.some.injEq, Addr.mk.injEq] at e
    omega⟩)
  have HRB := Lib.hid (show RB ((((w.alloc (.cells #[.int .i64 0, .int .i64 0, .int .i64 0, .slice none 0 0, .slice none 0 0, .slice none 0 0] 26)).alloc (.cells #[.int .i64 0] 29)).alloc (.cells #[.int .i64 0] 3)).alloc (.cells #[.slice A len cap, .int .i64 0] 56)) (w.heap.size + 1 + 1 + 1) A len cap (0 : Nat) from by
    have := heap_alloc_new (((w.alloc (.cells #[.int .i64 0, .int .i64 0, .int .i64 0, .slice none 0 0, .slice none 0 0, .slice none 0 0] 26)).alloc (.cells #[.int .i64 0] 29)).alloc (.cells #[.int .i64 0] 3)) (.cells #[.slice A len cap, .int .i64 0] 56)
    rwa [World.size_alloc, World.size_alloc, World.size_alloc] at this)
  have B2 : ((((w.alloc (.cells #[.int .i64 0, .int .i64 0, .int .i64 0, .slice none 0 0, .slice none 0 0, .slice none 0 0] 26)).alloc (.cells #[.int .i64 0] 29)).alloc (.cells #[.int .i64 0] 3)).alloc (.cells #[.slice A len cap, .int .i64 0] 56)).heap[w.heap.size + 1 + 1]? = some (.cells #[.int .i64 0] 3) := by
    rw [Below.heap_alloc _ _ _ (by simp)]
    have := heap_alloc_new ((w.alloc (.cells #[.int .i64 0, .int .i64 0, .int .i64 0, .slice none 0 0, .slice none 0 0, .slice none 0 0] 26)).alloc (.cells #[.int .i64 0] 29)) (.cells #[.int .i64 0] 3)
    rwa [World.size_alloc, World.size_alloc] at this
  have B1 : ((((w.alloc (.cells #[.int .i64 0, .int .i64 0, .int .i64 0, .slice none 0 0, .slice none 0 0, .slice none 0 0] 26)).alloc (.cells #[.int .i64 0] 29)).alloc (.cells #[.int .i64 0] 3)).alloc (.cells #[.slice A len cap, .int .i64 0] 56)).heap[w.heap.size + 1]? = some (.cells #[.int .i64 0] 29) := by
    rw [Below.heap_alloc _ _ _ (by simp), Below.heap_alloc _ _ _ (by simp)]
    have := heap_alloc_new (w.alloc (.cells #[.int .i64 0, .int .i64 0, .int .i64 0, .slice none 0 0, .slice none 0 0, .slice none 0 0] 26)) (.cells #[.int .i64 0] 29)
    rwa [World.size_alloc] at this
  have B0 : ((((w.alloc (.cells #[.int .i64 0, .int .i64 0, .int .i64 0, .slice none 0 0, .slice none 0 0, .slice none 0 0] 26)).alloc (.cells #[.int .i64 0] 29)).alloc (.cells #[.int .i64 0] 3)).alloc (.cells #[.slice A len cap, .int .i64 0] 56)).heap[w.heap.size]? = some (.cells #[.int .i64 0, .int .i64 0, .int .i64 0, .slice none 0 0, .slice none 0 0, .slice none 0 0] 26) := by
    rw [Below.heap_alloc _ _ _ (by simp; omega), Below.heap_alloc _ _ _ (by simp; omega), Below.heap_alloc _ _ _ (by simp)]
    exact heap_alloc_new w _
  have HB0 := Lib.hid B0
  have HB1 := Lib.hid B1
  have HB2 := Lib.hid B2
  have HW0 := Lib.hid W0
  have hWs : ((((w.alloc (.cells #[.int .i64 0, .int .i64 0, .int .i64 0, .slice none 0 0, .slice none 0 0, .slice none 0 0] 26)).alloc (.cells #[.int .i64 0] 29)).alloc (.cells #[.int .i64 0] 3)).alloc (.cells #[.slice A len cap, .int .i64 0] 56)).heap.size = w.heap.size + 1 + 1 + 1 + 1 := by simp
  have HWS := Lib.hid hWs
  clear ho hx hB W0 B0 B1 B2 hWs
  go_enter_defers Tryd.func13, Tryd.ntmps13
  go_wp2_with fail
  refine (image_any (w.heap.size + 1 + 1 + 1) A len cap xs _ HO.out (by omega) HRB.out HX.out hl).mono ?_
  rintro e v ⟨hr, hcs⟩
  have P0 := (hr.block w.heap.size (by rw [HWS.out]; omega) (by omega)).trans HB0.out
  have P1 := (hr.block (w.heap.size + 1) (by rw [HWS.out]; omega) (by omega)).trans HB1.out
  have P2 := (hr.block (w.heap.size + 1 + 1) (by rw [HWS.out]; omega) (by omega)).trans HB2.out
  have hz : w.heap.size + 1 + 1 + 1 < v.heap.size := by have := hr.size; rw [HWS.out] at this; omega
  have hbv : Below w.heap.size w v := HW0.out.trans (hr.below (by omega) (by rw [HWS.out]; omega))
  have c1 : v.cell? ⟨w.heap.size + 1, 0, none⟩ = some (.int .i64 0) := by rw [cell_of_row _ _ _ _ _ _ P1]; rfl
  have c2 : v.cell? ⟨w.heap.size + 1 + 1, 0, none⟩ = some (.int .i64 0) := by rw [cell_of_row _ _ _ _ _ _ P2]; rfl
  have f1 := Joins.unfrozen_of_block P1 0
  have f2 := Joins.unfrozen_of_block P2 0
  have d0 := PB.c0 P0
  have d1 := PB.c1 P0
  have d2 := PB.c2 P0
  have d3 := PB.c3 P0
  have d4 := PB.c4 P0
  have d5 := PB.c5 P0
  have e0 := PB.fr P0 0
  have e1 := PB.fr P0 1
  have e2 := PB.fr P0 2
  have e3 := PB.fr P0 3
  have e4 := PB.fr P0 4
  have e5 := PB.fr P0 5
  have HBV := Lib.hid hbv
  have HP0 := Lib.hid (show PB v w.heap.size (.int .i64 0) (.int .i64 0) (.int .i64 0) (.slice none 0 0) (.slice none 0 0) (.slice none 0 0) from P0)
  have HP1 := Lib.hid P1
  have HP2 := Lib.hid P2
  clear hbv hr P0 P1 P2
  rcases hcs with ⟨a, b, rfl, ha, hd⟩ | ⟨hd, Ad, ld, cd, Af, lf, cf, Ac, lc, cc, rfl, hIm, k1, k2, k3⟩
  · refine leaves_cons (f := 25) (args := #[.pointer (some ⟨w.heap.size + 1, 0, none⟩), .pointer (some ⟨w.heap.size + 1 + 1, 0, none⟩)]) (by simp) (by simp [go_sem]) ?_
    refine (catch_panicking (w.heap.size + 1) (w.heap.size + 1 + 1) a b v c1 c2 f1 f2 (by omega) (by omega) (by omega)).mono ?_
    rintro e u' w'' ⟨rfl, rfl, rfl⟩
    refine ⟨.tuple #[.agg #[.int .i64 0, .int .i64 0, .int .i64 0, .slice none 0 0, .slice none 0 0, .slice none 0 0], .int .i64 a, .int .i64 b], res13 _ w.heap.size _ _ _ _ _ _ _ _ _ _ _ _ _ _ _ ?_ ?_ ?_, ?_, .inl ⟨a, b, hd, ha, rfl⟩⟩
    · show PB (((v.setCell ⟨w.heap.size + 1, 0, none⟩ (.int .i64 a)).setCell ⟨w.heap.size + 1 + 1, 0, none⟩ (.int .i64 b)).alloc (.cells #[.int .i64 a, .int .i64 b] 53)) w.heap.size _ _ _ _ _ _
      exact ((PB.other HP0.out (p := ⟨w.heap.size + 1, 0, none⟩) (by simp) _).other (p := ⟨w.heap.size + 1 + 1, 0, none⟩) (by simp; omega) _).keep (Below.box _ _)
    · refine cell_blk (t := 29) ((Below.heap_alloc _ _ _ (by simp; omega)).trans ((Below.heap_setCell _ _ _ _ (by simp)).trans ?_))
      exact Joins.block_setCell HP1.out _
    · refine cell_blk (t := 3) ((Below.heap_alloc _ _ _ (by simp; omega)).trans ?_)
      exact Joins.block_setCell ((Below.heap_setCell _ _ _ _ (by simp)).trans HP2.out) _
    exact ((((HBV.out.setCell (by simp) _).setCell (by simp; omega) _).alloc (by simp; omega) _).drew)
  · have HIM := Lib.hid hIm
    have HD := Lib.hid hd
    have HK1 := Lib.hid k1
    have HK2 := Lib.hid k2
    have HK3 := Lib.hid k3
    clear hIm hd k1 k2 k3
    go_wp2
    refine leaves_cons (f := 25) (args := #[.pointer (some ⟨w.heap.size + 1, 0, none⟩), .pointer (some ⟨w.heap.size + 1 + 1, 0, none⟩)]) (by simp) (by simp [go_sem]) ?_
    refine (catch_idle _ _ _).mono ?_
    rintro e u' w'' ⟨rfl, rfl, rfl⟩
    refine ⟨.tuple #[.agg #[.int .i64 (Im.num xs 5 1), .int .i64 (Im.num xs 6 1), .int .i64 (Im.num xs 7 1), .slice Ad ld cd, .slice Af lf cf, .slice Ac lc cc], .int .i64 0, .int .i64 0], res13 _ w.heap.size _ _ _ _ _ _ _ _ _ _ _ _ _ _ _ ?_ ?_ ?_, ?_, .inr ⟨HD.out, Ad, ld, cd, Af, lf, cf, Ac, lc, cc, rfl, ?_⟩⟩
    · exact ((((((((PB.s0 HP0.out _).s1 _).s2 _).s3 _).s4 _).s5 _).other (p := ⟨w.heap.size + 1, 0, none⟩) (by simp) _).other (p := ⟨w.heap.size + 1 + 1, 0, none⟩) (by simp; omega) _).keep (Below.box _ _)
    · refine cell_blk (t := 29) ((Below.heap_alloc _ _ _ (by simp; omega)).trans ((Below.heap_setCell _ _ _ _ (by simp)).trans ?_))
      refine Joins.block_setCell (cs := #[.int .i64 0]) (t := 29) ?_ _
      repeat rw [Below.heap_setCell _ _ _ _ (by dsimp only; omega)]
      exact HP1.out
    · refine cell_blk (t := 3) ((Below.heap_alloc _ _ _ (by simp; omega)).trans ?_)
      refine Joins.block_setCell (cs := #[.int .i64 0]) (t := 3) ?_ _
      repeat rw [Below.heap_setCell _ _ _ _ (by dsimp only; omega)]
      exact HP2.out
    · exact ((((((((HBV.out.setCell (by simp) _).setCell (by simp) _).setCell (by simp) _).setCell (by simp) _).setCell (by simp) _).setCell (by simp) _).setCell (by simp) _).setCell (by simp; omega) _).alloc (by simp; omega) _
    · have hk : ∀ k, w.heap.size + 1 + 1 + 1 + 1 ≤ k → k < v.heap.size → ((((((((((v.setCell ⟨w.heap.size, 0, none⟩ (.int .i64 (Im.num xs 5 1))).setCell ⟨w.heap.size, 1, none⟩ (.int .i64 (Im.num xs 6 1))).setCell ⟨w.heap.size, 2, none⟩ (.int .i64 (Im.num xs 7 1))).setCell ⟨w.heap.size, 3, none⟩ (.slice Ad ld cd)).setCell ⟨w.heap.size, 4, none⟩ (.slice Af lf cf)).setCell ⟨w.heap.size, 5, none⟩ (.slice Ac lc cc)).setCell ⟨w.heap.size + 1, 0, none⟩ (.int .i64 0)).setCell ⟨w.heap.size + 1 + 1, 0, none⟩ (.int .i64 0)).alloc (.cells #[.int .i64 0, .int .i64 0] 53)).heap[k]? = v.heap[k]?) := fun k h1 h2 => by
        rw [Below.heap_alloc _ _ _ (by simpa using h2)]
        repeat rw [Below.heap_setCell _ _ _ _ (by dsimp only; omega)]
      exact HIM.out.move (by simp) (M := w.heap.size + 1 + 1 + 1 + 1) (fun b o s e => by rw [← HWS.out]; exact HK1.out b o s e) (fun b o s e => by rw [← HWS.out]; exact HK2.out b o s e) (fun b o s e => by rw [← HWS.out]; exact HK3.out b o s e) hk
end Go.Proofs.YtjadiijjahjjoaaDoor
