/-
  Layer 7: the example, what is too great, environments that come in.
  The walk of ValueTells.
-/
import Derived.Test.YtdbcpnpcnkccaaaMS
import Derived.Test.YtdbcpnpcnkccaaaMK
set_option linter.unusedSimpArgs false
set_option linter.unusedVariables false
namespace Go.Proofs.Ytdbcpnpcnkccaaa
set_option maxRecDepth 100000
open Go.RowKit Go.Maps Go.ChangeShapes Go.WideShapes Go.ChangeAt Go.Deep

set_option maxHeartbeats 2000000 in
theorem great_any (AX : Option Addr) (len cap : Nat) (E : EnV) (w : World) :
    Calls Try.prog 23 #[.slice AX len cap, E.v] w fun en w' => en = .returned (.bool (decide (300 < len ∨ 100 < E.n1 ∨ 300 < E.n2))) ∧ Below w.heap.size w w' := by
  have HB := Lib.hid (Below.box w (.cells #[.slice E.A1 E.n1 E.c1, .int .u64 E.r0, .int .u64 E.r1, .int .u64 E.r2, .int .u64 E.r3, .int .u64 E.r4, .int .u64 E.r5, .int .u64 E.r6, .int .u64 E.r7, .slice E.A2 E.n2 E.c2] 43))
  rw [env_v]
  by_cases h1 : 300 < len
  · rw [decide_eq_true (.inl h1)]
    have h1' : (300 : Int) < len := by omega
    clear h1
    go_enter Try.func23, Try.ntmps23
    go_wp2_with fail
    go_ret
    exact ⟨rfl, HB.out⟩
  by_cases h2 : 100 < E.n1
  · rw [decide_eq_true (.inr (.inl h2))]
    have h1' : ¬ (300 : Int) < len := by omega
    have h2' : (100 : Int) < E.n1 := by omega
    clear h1 h2
    go_enter Try.func23, Try.ntmps23
    go_wp2_with fail
    go_ret
    exact ⟨rfl, HB.out⟩
  by_cases h3 : 300 < E.n2
  · rw [decide_eq_true (.inr (.inr h3))]
    have h1' : ¬ (300 : Int) < len := by omega
    have h2' : ¬ (100 : Int) < E.n1 := by omega
    have h3' : (300 : Int) < E.n2 := by omega
    clear h1 h2 h3
    go_enter Try.func23, Try.ntmps23
    go_wp2_with fail
    go_ret
    exact ⟨rfl, HB.out⟩
  · rw [decide_eq_false (by omega)]
    have h1' : ¬ (300 : Int) < len := by omega
    have h2' : ¬ (100 : Int) < E.n1 := by omega
    have h3' : ¬ (300 : Int) < E.n2 := by omega
    clear h1 h2 h3
    go_enter Try.func23, Try.ntmps23
    go_wp2_with fail
    go_ret
    exact ⟨rfl, HB.out⟩

def vX : List Tm.Nd := [⟨1, 8, 0, 0, 0, 0⟩, ⟨6, 64, 0, 0, 0, 0⟩, ⟨0, 64, 5, 0, 0, 0⟩, ⟨8, 64, 0, 1, 2, 0⟩]
def vE1 : Vl.Env := ⟨[7], [0, 0, 0, 0, 0, 0, 0, 0], []⟩
def vE2 : Vl.Env := ⟨[], [0, 0, 0, 0, 0, 0, 0, 0], []⟩
theorem vR1 : Vl.ofR vX vE1 = (12, 0) := by decide +kernel
theorem vR2 : Vl.ofR vX vE2 = (5, 0) := by decide +kernel
theorem by_nil : Vl.By [] := fun j => by simp
theorem u_zero8 : Vl.U [0, 0, 0, 0, 0, 0, 0, 0] := fun j => by
  have : ∀ j, ([0, 0, 0, 0, 0, 0, 0, 0] : List Int).getD j 0 = 0 := fun j => by
    rcases Nat.lt_or_ge j 8 with h | h
    · have h8 : j = 0 ∨ j = 1 ∨ j = 2 ∨ j = 3 ∨ j = 4 ∨ j = 5 ∨ j = 6 ∨ j = 7 := by omega
      rcases h8 with rfl | rfl | rfl | rfl | rfl | rfl | rfl | rfl <;> rfl
    · rw [List.getD_eq_getElem?_getD, List.getElem?_eq_none (by simpa using h)]; rfl
  rw [this]; decide
theorem by_seven : Vl.By [7] := fun j => by
  rcases Nat.eq_zero_or_pos j with rfl | h
  · decide
  · rw [List.getD_eq_getElem?_getD, List.getElem?_eq_none (by simp only [List.length_singleton]; omega)]; decide
theorem bt_nil (w : World) (F : Nat → Prop) : BtIn w F none 0 0 [] := ⟨⟨rfl, Nat.le_refl _, Nat.zero_le _, fun h => absurd h (by omega)⟩, fun a e => by cases e⟩
theorem bt_new (w : World) (x : Int) : BtIn (w.alloc (.cells #[.int .u8 x] 5)) (fun _ => False) (some ⟨w.heap.size, 0, none⟩) 1 1 [x] :=
  ⟨⟨rfl, Nat.le_refl _, by simp [maxLen], fun _ => ⟨w.heap.size, 0, rfl, by simp, fun i hi => by
    obtain rfl : i = 0 := by omega
    exact (Blk.new w #[.int .u8 x] 5).c 0⟩⟩, fun _ _ _ h => h⟩
theorem vX_wf : ∀ x ∈ vX, Tm.Wf x := fun x hx => by
  simp only [vX, List.mem_cons, List.not_mem_nil, or_false] at hx
  rcases hx with rfl | rfl | rfl | rfl <;> exact ⟨by decide, by decide, by decide, by decide, by decide, by decide⟩
theorem vX_sl (w : World) : NdSl (w.alloc (.cells #[.int .i64 1, .int .i64 8, .int .u64 0, .int .i64 0, .int .i64 0, .int .i64 0, .int .i64 6, .int .i64 64, .int .u64 0, .int .i64 0, .int .i64 0, .int .i64 0, .int .i64 0, .int .i64 64, .int .u64 5, .int .i64 0, .int .i64 0, .int .i64 0, .int .i64 8, .int .i64 64, .int .u64 0, .int .i64 1, .int .i64 2, .int .i64 0] 36)) (some ⟨w.heap.size, 0, none⟩) 4 4 vX :=
  NdSl.of_own (base := w.heap.size) ⟨rfl, .inr ⟨w.heap.size, 4, _, rfl, Nat.le_refl _, heap_alloc_new w _, Nat.le_refl _, by simp [maxLen], rfl, rfl⟩⟩ vX_wf

theorem vaw1 (W : World) (A : Option Addr) (n : Nat) (hn : W.heap.size = n) (hS : NdSl W A 4 4 vX) :
    Calls Try.prog 24 #[.slice A 4 4, .agg #[.slice (some ⟨n, 0, none⟩) 1 1, .int .u64 0, .int .u64 0, .int .u64 0, .int .u64 0, .int .u64 0, .int .u64 0, .int .u64 0, .int .u64 0, .slice none 0 0]] (W.alloc (.cells #[.int .u8 7] 5)) fun en w' => en = .returned (.tuple #[.int .u64 12, .int .i64 0]) ∧ Below (W.alloc (.cells #[.int .u8 7] 5)).heap.size (W.alloc (.cells #[.int .u8 7] 5)) w' := by
  subst hn
  have h := vof_any A 4 4 vX ⟨some ⟨W.heap.size, 0, none⟩, 1, 1, 0, 0, 0, 0, 0, 0, 0, 0, none, 0, 0⟩ vE1 (W.alloc (.cells #[.int .u8 7] 5)) (hS.below (Below.box _ _)) ⟨bt_new W 7, rfl, bt_nil _ _, ⟨by_seven, u_zero8, by_nil, rfl⟩⟩ (by omega)
  rw [vR1] at h
  exact h
theorem vaw2 (W : World) (A : Option Addr) (hS : NdSl W A 4 4 vX) :
    Calls Try.prog 24 #[.slice A 4 4, .agg #[.slice none 0 0, .int .u64 0, .int .u64 0, .int .u64 0, .int .u64 0, .int .u64 0, .int .u64 0, .int .u64 0, .int .u64 0, .slice none 0 0]] W fun en w' => en = .returned (.tuple #[.int .u64 5, .int .i64 0]) ∧ Below W.heap.size W w' := by
  have h := vof_any A 4 4 vX ⟨none, 0, 0, 0, 0, 0, 0, 0, 0, 0, 0, none, 0, 0⟩ vE2 W hS ⟨bt_nil _ _, rfl, bt_nil _ _, ⟨by_nil, u_zero8, by_nil, rfl⟩⟩ (by omega)
  rw [vR2] at h
  exact h

set_option maxHeartbeats 4000000 in
theorem vawake_any (w : World) : Calls Try.prog 22 #[] w fun en w' => en = .returned (.bool true) ∧ Below w.heap.size w w' := by
  have HS := Lib.hid (vX_sl w)
  go_enter Try.func22, Try.ntmps22
  go_wp2_with fail
  refine Calls.mono (vaw1 _ _ _ (by simp) HS.out) ?_
  rintro en w2 ⟨rfl, hb⟩
  have hb2 := (Below.box _ _).trans (hb.mono (by simp))
  have HS2 := Lib.hid (HS.out.below hb2)
  have HB2 := Lib.hid (Below.trans (Below.box w _) (hb2.mono (by simp)))
  clear hb hb2
  go_wp2_with fail
  refine Calls.mono (vaw2 w2 _ HS2.out) ?_
  rintro en w3 ⟨rfl, hb⟩
  have HB3 := Lib.hid (HB2.out.trans (hb.mono HB2.out.size))
  clear hb HB2
  go_wp2_with fail
  go_ret
  exact ⟨rfl, HB3.out⟩

/-! ### environments that come in -/
section
variable {H : Type} {enc : TypeId × Value → H} {W : World} {b : Nat} {sp : Nat → Bool} {hd : Bool}
theorem cells43 : Try.prog.cellsOf 43 = 10 := by kernel_rfl
theorem cells40 : Try.prog.cellsOf 40 = 1 := by kernel_rfl
theorem cells41 : Try.prog.cellsOf 41 = 8 := by kernel_rfl
theorem cells33 : Try.prog.cellsOf 33 = 1 := by kernel_rfl
theorem cells5 : Try.prog.cellsOf 5 = 1 := by kernel_rfl
theorem bt_of_trod {l : List Value} {n : Nat} {y : DataW H × List MemPlace} (h : DataW.trod enc Try.prog W b sp hd n 40 l = some y) (hsp : ∀ k, sp k = true) :
    ∃ A len cap xs, l = [.slice A len cap] ∧ BtR W A len cap xs ∧ Vl.By xs := by
  rcases open_ints Try.underlying40 Try.underlying5 cells5 h with ⟨hcs, _⟩ | ⟨a, len, cap, zs, hcs, _, hl, hm, hz, _, hcell, hwz⟩
  · exact ⟨none, 0, 0, [], hcs, ⟨rfl, Nat.le_refl _, Nat.zero_le _, fun h => absurd h (by omega)⟩, by_nil⟩
  · rw [hsp] at hz
    have hz : zs.length = cap := hz
    have hbd : ∀ j, 0 ≤ zs.getD j 0 ∧ zs.getD j 0 < 256 := fun j => by
      rcases Nat.lt_or_ge j zs.length with h | h
      · have := hwz (zs.getD j 0) (by rw [List.getD_eq_getElem?_getD, List.getElem?_eq_getElem h]; exact List.getElem_mem h)
        have h3 : 0 ≤ zs.getD j 0 ∧ zs.getD j 0 ≤ 255 := by simpa [Lit.wf, IntKind.min, IntKind.max, IntKind.signed, IntKind.bits] using this
        omega
      · rw [List.getD_eq_getElem?_getD, List.getElem?_eq_none h]; decide
    have htk : ∀ j, j < len → (zs.take len).getD j 0 = zs.getD j 0 := fun j hj => by rw [List.getD_eq_getElem?_getD, List.getD_eq_getElem?_getD, List.getElem?_take_of_lt hj]
    refine ⟨some a, len, cap, zs.take len, hcs, ⟨by rw [List.length_take]; omega, hl, hm, fun h0 => ?_⟩, fun j => ?_⟩
    · obtain ⟨b', o, spot⟩ := a
      have h00 := hcell 0 (by omega)
      have hspot : spot = none := by
        have h1 : W.cell? (⟨b', o, spot⟩ : Addr) = some (.int .u8 (zs.getD 0 0)) := by simpa [Addr.add] using h00
        simpa using World.cell?_spot h1
      subst hspot
      refine ⟨b', o, rfl, ?_, fun i hi => ?_⟩
      · rcases Nat.lt_or_ge b' W.heap.size with h2 | h2
        · exact h2
        · simp [World.cell?, Addr.add, Array.getElem?_eq_none h2] at h00
      · have := hcell i (by omega)
        rw [add_at] at this
        rw [htk i hi]
        exact this
    · rcases Nat.lt_or_ge j len with h | h
      · rw [htk j h]; exact hbd j
      · rw [List.getD_eq_getElem?_getD, List.getElem?_eq_none (by rw [List.length_take]; omega)]; decide
theorem env_of_trod {l : List Value} {n : Nat} {y : DataW H × List MemPlace} (h : DataW.trod enc Try.prog W b sp hd n 43 l = some y) (hsp : ∀ k, sp k = true) :
    ∃ (E : EnV) (e : Vl.Env), l = [.slice E.A1 E.n1 E.c1, .int .u64 E.r0, .int .u64 E.r1, .int .u64 E.r2, .int .u64 E.r3, .int .u64 E.r4, .int .u64 E.r5, .int .u64 E.r6, .int .u64 E.r7, .slice E.A2 E.n2 E.c2] ∧ EnIn W (fun _ => False) E e := by
  obtain ⟨ys, k, _, _, hl, hy, hf⟩ := DataW.trod_struct Try.underlying43 h
  rw [cells43] at hl
  have g0 := hf 0 _ rfl
  have g1 := hf 1 _ rfl
  have g2 := hf 2 _ rfl
  match l, hl with
  | [c0, c1, c2, c3, c4, c5, c6, c7, c8, c9], _ =>
    match ys, hy with
    | [y0, y1, y2], _ =>
      simp [cells40, cells41] at g0 g1 g2
      obtain ⟨A1, n1, k1, xs1, e1, hr1, hb1⟩ := bt_of_trod g0 hsp
      obtain ⟨A2, n2, k2, xs2, e2, hr2, hb2⟩ := bt_of_trod g2 hsp
      have ga := DataW.trod_array Try.underlying41 g1
      obtain ⟨xs, m, _, _, _, hxl, hi⟩ := ga
      match xs, hxl with
      | [z0, z1, z2, z3, z4, z5, z6, z7], _ =>
        have f0 := hi 0 (by omega)
        have f1 := hi 1 (by omega)
        have f2 := hi 2 (by omega)
        have f3 := hi 3 (by omega)
        have f4 := hi 4 (by omega)
        have f5 := hi 5 (by omega)
        have f6 := hi 6 (by omega)
        have f7 := hi 7 (by omega)
        simp [cells33] at f0 f1 f2 f3 f4 f5 f6 f7
        obtain ⟨r0, e3, _, w0⟩ := DataW.trod_int Try.underlying33 f0
        obtain ⟨r1, e4, _, w1⟩ := DataW.trod_int Try.underlying33 f1
        obtain ⟨r2, e5, _, w2⟩ := DataW.trod_int Try.underlying33 f2
        obtain ⟨r3, e6, _, w3⟩ := DataW.trod_int Try.underlying33 f3
        obtain ⟨r4, e7, _, w4⟩ := DataW.trod_int Try.underlying33 f4
        obtain ⟨r5, e8, _, w5⟩ := DataW.trod_int Try.underlying33 f5
        obtain ⟨r6, e9, _, w6⟩ := DataW.trod_int Try.underlying33 f6
        obtain ⟨r7, e10, _, w7⟩ := DataW.trod_int Try.underlying33 f7
        simp at e1 e2 e3 e4 e5 e6 e7 e8 e9 e10
        subst e1 e2 e3 e4 e5 e6 e7 e8 e9 e10
        have hu : ∀ r : Int, (Lit.int .u64 r).wf = true → 0 ≤ r ∧ r < 18446744073709551616 := fun r h => by
          have h3 : 0 ≤ r ∧ r ≤ 18446744073709551615 := by simpa [Lit.wf, IntKind.min, IntKind.max, IntKind.signed, IntKind.bits] using h
          omega
        refine ⟨⟨A1, n1, k1, r0, r1, r2, r3, r4, r5, r6, r7, A2, n2, k2⟩, ⟨xs1, [r0, r1, r2, r3, r4, r5, r6, r7], xs2⟩, rfl, ⟨hr1.in_none, rfl, hr2.in_none, ⟨hb1, fun j => ?_, hb2, rfl⟩⟩⟩
        rcases Nat.lt_or_ge j 8 with h | h
        · have h8 : j = 0 ∨ j = 1 ∨ j = 2 ∨ j = 3 ∨ j = 4 ∨ j = 5 ∨ j = 6 ∨ j = 7 := by omega
          rcases h8 with rfl | rfl | rfl | rfl | rfl | rfl | rfl | rfl
          · exact hu _ w0
          · exact hu _ w1
          · exact hu _ w2
          · exact hu _ w3
          · exact hu _ w4
          · exact hu _ w5
          · exact hu _ w6
          · exact hu _ w7
        · dsimp only
          rw [List.getD_eq_getElem?_getD, List.getElem?_eq_none (by simpa using h)]; decide
/-- An environment that comes in. -/
theorem open_env {base : Nat} {v : Value} {d : DataW H} {p : List MemPlace} (hv : Value.okWide Try.prog W .any base 43 v) (h : DataW.Trod enc Try.prog W b sp hd 43 v d p) (hsp : ∀ k, sp k = true) :
    ∃ (E : EnV) (e : Vl.Env), v = E.v ∧ EnIn W (fun _ => False) E e := by
  obtain ⟨cs, rfl, hsz⟩ := okWide_struct Try.underlying43 hv
  obtain ⟨fuel, hf⟩ := h
  obtain ⟨E, e, he, hE⟩ := env_of_trod hf hsp
  refine ⟨E, e, ?_, hE⟩
  obtain ⟨l⟩ := cs
  have e' : l = [.slice E.A1 E.n1 E.c1, .int .u64 E.r0, .int .u64 E.r1, .int .u64 E.r2, .int .u64 E.r3, .int .u64 E.r4, .int .u64 E.r5, .int .u64 E.r6, .int .u64 E.r7, .slice E.A2 E.n2 E.c2] := by simpa [Value.cells] using he
  subst e'
  rfl
end
end Go.Proofs.Ytdbcpnpcnkccaaa
namespace Go.Proofs.Ytdbcpnpcnkccaaa
set_option maxRecDepth 100000
open Go.RowKit Go.Maps

/-- Behind the environment's box, all as it was. -/
structure Ebx (w0 w : World) (E : EnV) : Prop where
  env : EnB w w0.heap.size E
  bel : Below w0.heap.size w0 w
theorem Ebx.new (w : World) (E : EnV) : Ebx w (w.alloc (.cells #[.slice E.A1 E.n1 E.c1, .int .u64 E.r0, .int .u64 E.r1, .int .u64 E.r2, .int .u64 E.r3, .int .u64 E.r4, .int .u64 E.r5, .int .u64 E.r6, .int .u64 E.r7, .slice E.A2 E.n2 E.c2] 43)) E := ⟨Blk.new _ _ _, Below.box _ _⟩
theorem Ebx.next {w0 w w' : World} {E : EnV} (h : Ebx w0 w E) (hb : Below w.heap.size w w') : Ebx w0 w' E := ⟨(hb.block _ h.env.lt).trans h.env, h.bel.trans (hb.mono h.bel.size)⟩

set_option maxHeartbeats 16000000 in
theorem tells_walk (A0 : Option Addr) (len cap : Nat) (L : List Tm.Nd) (E : EnV) (e : Vl.Env) (k : Nat) (w : World) (hx : NdSl w A0 len cap L) (hE : EnIn w (fun _ => False) E e) (hk : k < 18446744073709551616) :
    Calls Try.prog 4 #[.slice A0 len cap, E.v, .int .u64 k] w fun en w' => en = .returned (.bool true) ∧ Below w.heap.size w w' := by
  have HX := Lib.hid hx
  have HE := Lib.hid hE
  have HK := Lib.hid hk
  have HB0 := Lib.hid (Ebx.new w E)
  clear hx hE hk
  rw [env_v]
  go_enter Try.func4, Try.ntmps4
  go_wp2_with fail
  generalize w.alloc (.cells #[.slice E.A1 E.n1 E.c1, .int .u64 E.r0, .int .u64 E.r1, .int .u64 E.r2, .int .u64 E.r3, .int .u64 E.r4, .int .u64 E.r5, .int .u64 E.r6, .int .u64 E.r7, .slice E.A2 E.n2 E.c2] 43) = W1 at *
  refine Calls.mono (vawake_any W1) ?_
  rintro en w1 ⟨rfl, hb⟩
  have HB1 := Lib.hid (HB0.out.next hb)
  clear hb HB0
  obtain ⟨f0, f1, f2, f3, f4, f5, f6, f7, f8, f9⟩ := HB1.out.env.cells
  go_wp2_with fail
  clear f0 f1 f2 f3 f4 f5 f6 f7 f8 f9
  have hg := great_any A0 len cap E w1
  rw [env_v] at hg
  refine Calls.mono hg ?_
  rintro en w2 ⟨rfl, hb⟩
  have HB2 := Lib.hid (HB1.out.next hb)
  clear hb HB1 hg
  by_cases hgr : 300 < len ∨ 100 < E.n1 ∨ 300 < E.n2
  · rw [decide_eq_true hgr]
    clear hgr
    go_wp2_with fail
    go_ret
    exact ⟨rfl, HB2.out.bel⟩
  · rw [decide_eq_false hgr]
    have HL := Lib.hid (show len ≤ 300 by omega)
    clear hgr
    go_wp2_with fail
    have HS := Lib.hid HB2.out.bel.size
    have hB2 := HB2.out
    obtain ⟨f0, f1, f2, f3, f4, f5, f6, f7, f8, f9⟩ := hB2.env.cells
    have HBW := Lib.hid hB2.env.lt
    refine wp_region_held_drew (S := fun W => Below w2.heap.size w2 W) (by kernel_rfl) (Below.refl _ _).drew (fun hHeld => ?_)
    refine wpAnyH_take (i := 1) (v := .slice A0 len cap) rfl (by kernel_rfl) (by kernel_rfl) (by kernel_rfl) (fun _ _ _ h => h) (Or.inl ⟨by rfl, fun w9 hSw => ?_⟩) hHeld ?_
    · (try dsimp only at hSw)
      go_simp
    try simp only [List.getElem_toArray, List.getElem_cons_succ, List.getElem_cons_zero, Act.put, List.setIfInBounds_toArray, List.set_cons_zero, List.set_cons_succ]
    refine wpAnyH_take (i := 3) (v := .agg #[.slice E.A1 E.n1 E.c1, .int .u64 E.r0, .int .u64 E.r1, .int .u64 E.r2, .int .u64 E.r3, .int .u64 E.r4, .int .u64 E.r5, .int .u64 E.r6, .int .u64 E.r7, .slice E.A2 E.n2 E.c2]) rfl (by kernel_rfl) (by kernel_rfl) (by kernel_rfl) (fun _ _ _ h => h) (Or.inl ⟨by rfl, fun w9 hSw => ?_⟩) hHeld ?_
    · (try dsimp only at hSw)
      have q0 := cells_below hSw f0 HBW.out
      have q1 := cells_below hSw f1 HBW.out
      have q2 := cells_below hSw f2 HBW.out
      have q3 := cells_below hSw f3 HBW.out
      have q4 := cells_below hSw f4 HBW.out
      have q5 := cells_below hSw f5 HBW.out
      have q6 := cells_below hSw f6 HBW.out
      have q7 := cells_below hSw f7 HBW.out
      have q8 := cells_below hSw f8 HBW.out
      have q9 := cells_below hSw f9 HBW.out
      go_simp
    try simp only [List.getElem_toArray, List.getElem_cons_succ, List.getElem_cons_zero, Act.put, List.setIfInBounds_toArray, List.set_cons_zero, List.set_cons_succ]
    refine wpAnyH_ready (rs := [0]) (by kernel_rfl) (by simp) ?_
    refine (AllReadyH.cons rfl (fun K hK => ?_) AllReadyH.nil)
    go_simp
    have hb3 : Below w2.heap.size w2 (w2.alloc (.cells #[] 36)).drew := (Below.box _ _).drew
    refine hK.out _ _ hb3 (fun hHeld => ?_)
    clear hK K
    try simp only [List.getElem_toArray, List.getElem_cons_succ, List.getElem_cons_zero, Act.put, List.setIfInBounds_toArray, List.set_cons_zero, List.set_cons_succ]
    refine wpAnyH_ready (rs := [2]) (by kernel_rfl) (by simp) ?_
    refine (AllReadyH.cons rfl (fun K hK => ?_) AllReadyH.nil)
    refine step_apG (w := (w2.alloc (.cells #[] 36)).drew) rfl (.tmp 25) (.tmp 26) rfl w2.heap.size (some ⟨w2.heap.size, 0, none⟩) 0 0 [] rfl (own_new w2).drew A0 len cap L rfl (HX.out.below (hB2.bel.trans (hb3.mono hB2.bel.size))) (by have := HL.out; omega) (by simp) len (by omega) ?_
    intro A1 cap1 w3 hrow hgrow hmv
    have hb4 : Below w2.heap.size w2 w3 := hb3.trans ((Below.refl _ _).grown hgrow (by simp) (fun j hj => by simp [oblk] at hj; omega))
    have hs3 := NdSl.of_own (X := L) (by simpa using hrow) HX.out.wf
    refine hK.out _ _ hb4 (fun hHeld => ?_)
    clear hK K hrow hgrow hmv hb3
    try simp only [List.getElem_toArray, List.getElem_cons_succ, List.getElem_cons_zero, Act.put, List.setIfInBounds_toArray, List.set_cons_zero, List.set_cons_succ]
    refine wpAnyH_ready (rs := [4]) (by kernel_rfl) (by simp) ?_
    refine (AllReadyH.cons rfl (fun K hK => ?_) AllReadyH.nil)
    go_simp
    have ho := vof_any A1 len cap1 L E e w3 hs3 (HE.out.keep (Keep.of_below (hB2.bel.trans (hb4.mono hB2.bel.size)))) (by have := HL.out; omega)
    rw [env_v] at ho
    refine Calls.mono ho ?_
    rintro en w4 ⟨rfl, hb5⟩
    have hb6 : Below w2.heap.size w2 w4 := hb4.trans (hb5.mono hb4.size)
    refine hK.out _ _ hb6 (fun hHeld => ?_)
    clear hK K hb5 ho
    try simp only [List.getElem_toArray, List.getElem_cons_succ, List.getElem_cons_zero, Act.put, List.setIfInBounds_toArray, List.set_cons_zero, List.set_cons_succ]
    refine wpAnyH_take (i := 5) (v := .tuple #[.int .u64 (Vl.ofR L e).1, .int .i64 (Vl.ofR L e).2]) rfl (by kernel_rfl) (by kernel_rfl) (by kernel_rfl) (fun _ _ _ h => h) (Or.inl ⟨by rfl, fun w9 hSw => ?_⟩) hHeld ?_
    · (try dsimp only at hSw)
      go_simp
    try simp only [List.getElem_toArray, List.getElem_cons_succ, List.getElem_cons_zero, Act.put, List.setIfInBounds_toArray, List.set_cons_zero, List.set_cons_succ]
    refine wpAnyH_take (i := 6) (v := .int .u64 (Vl.ofR L e).1) rfl (by kernel_rfl) (by kernel_rfl) (by kernel_rfl) (fun _ _ _ h => h) (Or.inl ⟨by rfl, fun w9 hSw => ?_⟩) hHeld ?_
    · (try dsimp only at hSw)
      go_simp
    try simp only [List.getElem_toArray, List.getElem_cons_succ, List.getElem_cons_zero, Act.put, List.setIfInBounds_toArray, List.set_cons_zero, List.set_cons_succ]
    refine wpAnyH_take (i := 7) (v := .int .i64 (Vl.ofR L e).2) rfl (by kernel_rfl) (by kernel_rfl) (by kernel_rfl) (fun _ _ _ h => h) (Or.inl ⟨by rfl, fun w9 hSw => ?_⟩) hHeld ?_
    · (try dsimp only at hSw)
      go_simp
    try simp only [List.getElem_toArray, List.getElem_cons_succ, List.getElem_cons_zero, Act.put, List.setIfInBounds_toArray, List.set_cons_zero, List.set_cons_succ]
    refine wpAnyH_take (i := 8) (v := .int .u64 (Vl.ofR L e).1) rfl (by kernel_rfl) (by kernel_rfl) (by kernel_rfl) (fun _ _ _ h => h) (Or.inl ⟨by rfl, fun w9 hSw => ?_⟩) hHeld ?_
    · (try dsimp only at hSw)
      go_simp
    try simp only [List.getElem_toArray, List.getElem_cons_succ, List.getElem_cons_zero, Act.put, List.setIfInBounds_toArray, List.set_cons_zero, List.set_cons_succ]
    refine wpAnyH_take (i := 9) (v := .int .i64 (Vl.ofR L e).2) rfl (by kernel_rfl) (by kernel_rfl) (by kernel_rfl) (fun _ _ _ h => h) (Or.inl ⟨by rfl, fun w9 hSw => ?_⟩) hHeld ?_
    · (try dsimp only at hSw)
      go_simp
    try simp only [List.getElem_toArray, List.getElem_cons_succ, List.getElem_cons_zero, Act.put, List.setIfInBounds_toArray, List.set_cons_zero, List.set_cons_succ]
    refine wpAnyH_done (by kernel_rfl) ?_ _
    clear hHeld
    have HB3 := Lib.hid (hB2.next hb6)
    clear hb4 hb6 hs3 hB2 f0 f1 f2 f3 f4 f5 f6 f7 f8 f9 HB2 HBW HS
    obtain ⟨f0, f1, f2, f3, f4, f5, f6, f7, f8, f9⟩ := HB3.out.env.cells
    have hc := rof_any A0 len cap L E e _ (HX.out.below HB3.out.bel) (HE.out.keep (Keep.of_below HB3.out.bel)) (by have := HL.out; omega)
    rw [env_v] at hc
    have HC := Lib.hid hc
    clear hc
    go_wp2_with fail
    refine Calls.mono HC.out ?_
    rintro en w5 ⟨rfl, hb⟩
    have HB4 := Lib.hid (HB3.out.next hb)
    clear hb HC f0 f1 f2 f3 f4 f5 f6 f7 f8 f9 HB3
    obtain ⟨f0, f1, f2, f3, f4, f5, f6, f7, f8, f9⟩ := HB4.out.env.cells
    have hc := (fun W h1 h2 h3 => if hc : (Tm.chk L).1 = 0 then all_good A0 len cap L E e W h1 h2 h3 hc else all_bad A0 len cap L E e W h1 h3 hc) _ (HX.out.below HB4.out.bel) (HE.out.keep (Keep.of_below HB4.out.bel)) (by have := HL.out; omega)
    rw [env_v] at hc
    have HC := Lib.hid hc
    clear hc
    go_wp2_with fail
    refine Calls.mono HC.out ?_
    rintro en w6 ⟨AA, na, ca, rfl, hus, hb⟩
    have HB5 := Lib.hid (HB4.out.next hb)
    have HUS4 := Lib.hid hus
    clear hus
    clear hb HC f0 f1 f2 f3 f4 f5 f6 f7 f8 f9 HB4
    obtain ⟨f0, f1, f2, f3, f4, f5, f6, f7, f8, f9⟩ := HB5.out.env.cells
    have hc := rall_any A0 len cap L E e _ (HX.out.below HB5.out.bel) (HE.out.keep (Keep.of_below HB5.out.bel)) (by have := HL.out; omega)
    rw [env_v] at hc
    have HC := Lib.hid hc
    clear hc
    go_wp2_with fail
    refine Calls.mono HC.out ?_
    rintro en w7 ⟨AB, nb, cb, rfl, hus, hb⟩
    have HB6 := Lib.hid (HB5.out.next hb)
    have HUA := Lib.hid (HUS4.out.below hb)
    have HUB := Lib.hid hus
    clear hus HUS4
    clear hb HC f0 f1 f2 f3 f4 f5 f6 f7 f8 f9 HB5
    obtain ⟨f0, f1, f2, f3, f4, f5, f6, f7, f8, f9⟩ := HB6.out.env.cells
    have hc := byte_any A0 len cap L E e k _ (HX.out.below HB6.out.bel) (HE.out.keep (Keep.of_below HB6.out.bel)) (by have := HL.out; omega) HK.out
    rw [env_v] at hc
    have HC := Lib.hid hc
    clear hc
    go_wp2_with fail
    refine Calls.mono HC.out ?_
    rintro en w8 ⟨rfl, hb⟩
    have HB7 := Lib.hid (HB6.out.next hb)
    have HUA := Lib.hid (HUA.out.below hb)
    have HUB := Lib.hid (HUB.out.below hb)
    clear hb HC f0 f1 f2 f3 f4 f5 f6 f7 f8 f9 HB6
    obtain ⟨f0, f1, f2, f3, f4, f5, f6, f7, f8, f9⟩ := HB7.out.env.cells
    have hc := rbyte_any A0 len cap L E e k _ (HX.out.below HB7.out.bel) (HE.out.keep (Keep.of_below HB7.out.bel)) (by have := HL.out; omega)
    rw [env_v] at hc
    have HC := Lib.hid hc
    clear hc
    go_wp2_with fail
    refine Calls.mono HC.out ?_
    rintro en w9 ⟨rfl, hb⟩
    have HB8 := Lib.hid (HB7.out.next hb)
    have HUA := Lib.hid (HUA.out.below hb)
    have HUB := Lib.hid (HUB.out.below hb)
    clear hb HC f0 f1 f2 f3 f4 f5 f6 f7 f8 f9 HB7
    have hna : na ≤ 1000000 := by
      have h1 := HUA.out.hlen
      rw [Vl.alR] at h1
      split at h1
      · rw [Vl.vals_len] at h1; have := HX.out.hlen; have := HL.out; omega
      · simp at h1; omega
    have HN := Lib.hid hna
    clear hna
    go_wp2_with (go_at_call 30; refine Calls.mono (words_same AA na ca AB nb cb _ _ HUA.out HUB.out HN.out) ?_; rintro en w10 ⟨rfl, hb⟩; have HBZ := Lib.hid (HB8.out.next hb); clear hb)
    go_ret
    exact ⟨rfl, HBZ.out.bel⟩
theorem u64_nat {x : Int} (h : (Lit.int .u64 x).wf = true) : ∃ k : Nat, x = (k : Int) ∧ k < 18446744073709551616 := by
  have h3 : 0 ≤ x ∧ x ≤ 18446744073709551615 := by simpa [Lit.wf, IntKind.min, IntKind.max, IntKind.signed, IntKind.bits] using h
  exact ⟨x.toNat, by omega, by omega⟩
theorem tells_any (A0 : Option Addr) (len cap : Nat) (L : List Tm.Nd) (E : EnV) (e : Vl.Env) (x : Int) (w : World) (hx : NdSl w A0 len cap L) (hE : EnIn w (fun _ => False) E e) (hw : (Lit.int .u64 x).wf = true) :
    Calls Try.prog 4 #[.slice A0 len cap, E.v, .int .u64 x] w fun en w' => en = .returned (.bool true) ∧ Below w.heap.size w w' := by
  obtain ⟨k, rfl, hk⟩ := u64_nat hw
  exact tells_walk A0 len cap L E e k w hx hE hk
end Go.Proofs.Ytdbcpnpcnkccaaa
