/-
  An image that comes in: its fields, and what its slices hold.
-/
import Derived.Test.YthkhadbeomkihaaDoorMc19
import Derived.Deep.Slices
namespace Go.Proofs.YthkhadbeomkihaaDoor
set_option maxRecDepth 100000
open Go.RowKit Go.ChangeShapes Go.WideShapes Go.ChangeAt Go.Deep

section
variable {H : Type} {enc : TypeId × Value → H} {W : World} {b : Nat} {sp : Nat → Bool} {hd : Bool}
theorem bytes_of_trod {v : Value} {n : Nat} {y : DataW H × List MemPlace} (h : DataW.trod enc Tryd.prog W b sp hd n 22 [v] = some y) (hsp : ∀ k, sp k = true) : ∃ A len cap xs, v = .slice A len cap ∧ BySl W A len cap xs := by
  have h' := h
  rcases open_ints Tryd.underlying22 Tryd.underlying5 (by kernel_rfl) h with ⟨hcs, _⟩ | ⟨x, l, c, zs, hcs, _, hl, hm, hz, _, hcell, hwz⟩
  · simp only [List.cons.injEq, and_true] at hcs
    subst hcs
    exact ⟨none, 0, 0, [], rfl, BySl.nil⟩
  · simp only [List.cons.injEq, and_true] at hcs
    subst hcs
    have hzl : zs.length = c := by simpa [hsp] using hz
    refine ⟨some x, l, c, zs.take l, rfl, by rw [List.length_take]; omega, hl, hm, fun e => by simp at e, isB_of (fun n hn => byte_of_wf (hwz n (List.mem_of_mem_take hn))), fun h0 => ?_⟩
    obtain ⟨b', o, rfl, hc⟩ := ints_at hcell (by omega)
    have hx : Byts W ⟨b', o, Option.none⟩ (zs.take l) := fun i hi => by
      rw [List.length_take] at hi
      rw [add_at, hc i (by omega), List.getD_eq_getElem?_getD, List.getD_eq_getElem?_getD, List.getElem?_take_of_lt (by omega)]
    exact ⟨b', o, rfl, hx.lt (by rw [List.length_take]; omega), hx⟩
theorem ints_of_trod {v : Value} {n : Nat} {y : DataW H × List MemPlace} (h : DataW.trod enc Tryd.prog W b sp hd n 23 [v] = some y) (hsp : ∀ k, sp k = true) : ∃ A len cap xs, v = .slice A len cap ∧ InSl W A len cap xs := by
  rcases open_ints Tryd.underlying23 Tryd.underlying3 (by kernel_rfl) h with ⟨hcs, _⟩ | ⟨x, l, c, zs, hcs, _, hl, hm, hz, _, hcell, hwz⟩
  · simp only [List.cons.injEq, and_true] at hcs
    subst hcs
    exact ⟨none, 0, 0, [], rfl, rfl, Nat.le_refl _, Nat.zero_le _, fun _ => rfl, fun h0 => absurd h0 (by omega)⟩
  · simp only [List.cons.injEq, and_true] at hcs
    subst hcs
    have hzl : zs.length = c := by simpa [hsp] using hz
    refine ⟨some x, l, c, zs.take l, rfl, by rw [List.length_take]; omega, hl, hm, fun e => by simp at e, fun h0 => ?_⟩
    obtain ⟨b', o, rfl, hc⟩ := ints_at hcell (by omega)
    refine ⟨b', o, rfl, ?_, fun i hi => ?_⟩
    · have h1 := hc 0 (by omega)
      rcases Nat.lt_or_ge b' W.heap.size with h2 | h2
      · exact h2
      · simp [World.cell?, Array.getElem?_eq_none h2] at h1
    · rw [hc i (by omega), List.getD_eq_getElem?_getD, List.getD_eq_getElem?_getD, List.getElem?_take_of_lt (by omega)]
theorem cells43 : Tryd.prog.cellsOf 59 = 5 := by kernel_rfl
theorem cells3 : Tryd.prog.cellsOf 3 = 1 := by kernel_rfl
theorem cells41 : Tryd.prog.cellsOf 29 = 1 := by kernel_rfl
theorem ins_of_trod {l : List Value} {n : Nat} {y : DataW H × List MemPlace} (h : DataW.trod enc Tryd.prog W b sp hd n 59 l = some y) :
    ∃ i : Im.I5, l = [.int .i64 i.op, .int .i64 i.a, .int .i64 i.b, .int .i64 i.c, .int .u64 i.m] ∧ 0 ≤ i.m ∧ i.m < 18446744073709551616 := by
  obtain ⟨ys, k, _, _, hl, hy, hf⟩ := DataW.trod_struct Tryd.underlying59 h
  rw [cells43] at hl
  have g0 := hf 0 _ rfl
  have g1 := hf 1 _ rfl
  have g2 := hf 2 _ rfl
  have g3 := hf 3 _ rfl
  have g4 := hf 4 _ rfl
  match l, hl with
  | [c0, c1, c2, c3, c4], _ =>
    match ys, hy with
    | [y0, y1, y2, y3, y4], _ =>
      simp at g0 g1 g2 g3 g4
      obtain ⟨n0, e0, _, _⟩ := DataW.trod_int Tryd.underlying3 g0
      obtain ⟨n1, e1, _, _⟩ := DataW.trod_int Tryd.underlying3 g1
      obtain ⟨n2, e2, _, _⟩ := DataW.trod_int Tryd.underlying3 g2
      obtain ⟨n3, e3, _, _⟩ := DataW.trod_int Tryd.underlying3 g3
      obtain ⟨n4, e4, _, w4⟩ := DataW.trod_int Tryd.underlying29 g4
      simp [cells3, cells41] at e0 e1 e2 e3 e4
      subst e0 e1 e2 e3 e4
      have w4' : 0 ≤ n4 ∧ n4 ≤ 18446744073709551615 := by simpa [Lit.wf, IntKind.min, IntKind.max, IntKind.signed, IntKind.bits] using w4
      exact ⟨⟨n0, n1, n2, n3, n4⟩, rfl, by simp only; omega, by simp only; omega⟩
theorem list_of {α : Type} (z : α) {n : Nat} {Q : Nat → α → Prop} (h : ∀ i, i < n → ∃ x, Q i x) : ∃ l : List α, l.length = n ∧ ∀ i, i < n → Q i (l.getD i z) := by
  induction n with
  | zero => exact ⟨[], rfl, fun i hi => absurd hi (by omega)⟩
  | succ n ih =>
    obtain ⟨l, hl, hq⟩ := ih fun i hi => h i (by omega)
    obtain ⟨x, hx⟩ := h n (by omega)
    refine ⟨l ++ [x], by simp [hl], fun i hi => ?_⟩
    rcases Nat.lt_or_ge i n with h1 | h1
    · rw [List.getD_eq_getElem?_getD, List.getElem?_append_left (by omega), ← List.getD_eq_getElem?_getD]
      exact hq i h1
    · obtain rfl : i = n := by omega
      rw [List.getD_eq_getElem?_getD, List.getElem?_append_right (by omega), hl, Nat.sub_self]
      exact hx
theorem code_of_trod {v : Value} {n : Nat} {y : DataW H × List MemPlace} (h : DataW.trod enc Tryd.prog W b sp hd n 24 [v] = some y) (hsp : ∀ k, sp k = true) : ∃ A len cap cs, v = .slice A len cap ∧ CoSl W A len cap cs := by
  rcases open_slice Tryd.underlying24 h with ⟨hcs, _⟩ | ⟨a, len, cap, m, k, D, Pl, hcs, _, hl, hm, hmm, _, hi⟩
  · simp only [List.cons.injEq, and_true] at hcs
    subst hcs
    exact ⟨none, 0, 0, [], rfl, rfl, Nat.le_refl _, Nat.zero_le _, fun _ => rfl, fun i => ⟨by simp [Im.z5], by simp [Im.z5]⟩, fun h0 => absurd h0 (by omega)⟩
  · simp only [List.cons.injEq, and_true] at hcs
    subst hcs
    have hmc : m = cap := by rw [hmm, hsp]; rfl
    have hel : ∀ i, i < len → ∃ x : Im.I5, (∀ j, j < 5 → W.cell? ((a.add (i * 5)).add j) = [Value.int .i64 x.op, .int .i64 x.a, .int .i64 x.b, .int .i64 x.c, .int .u64 x.m][j]?) ∧ 0 ≤ x.m ∧ x.m < 18446744073709551616 := fun i hlt => by
      obtain ⟨cs', hc, ht⟩ := hi i (by omega)
      rw [cells43] at hc
      obtain ⟨_, _, hat⟩ := World.cells?_some hc
      obtain ⟨x, rfl, h1, h2⟩ := ins_of_trod ht
      exact ⟨x, fun j hj => hat j hj, h1, h2⟩
    obtain ⟨cs, hcl, hq⟩ := list_of Im.z5 hel
    refine ⟨some a, len, cap, cs, rfl, hcl, hl, hm, fun e => by simp at e, fun i => ?_, fun h0 => ?_⟩
    · rcases Nat.lt_or_ge i len with h1 | h1
      · exact (hq i h1).2
      · rw [Im.getD_past (by omega)]
        exact ⟨by simp [Im.z5], by simp [Im.z5]⟩
    · obtain ⟨b', o, spot⟩ := a
      have h00 := (hq 0 h0).1 0 (by omega)
      have hspot : spot = none := by
        have h1 : W.cell? (⟨b', o, spot⟩ : Addr) = some (.int .i64 (cs.getD 0 Im.z5).op) := by simpa [Addr.add] using h00
        simpa using World.cell?_spot h1
      subst hspot
      refine ⟨b', o, rfl, ?_, fun i hlt => ?_⟩
      · rcases Nat.lt_or_ge b' W.heap.size with h2 | h2
        · exact h2
        · simp [World.cell?, Addr.add, Array.getElem?_eq_none h2] at h00
      · have e : ∀ j, j < 5 → W.cell? ⟨b', o + i * 5 + j, none⟩ = [Value.int .i64 (cs.getD i Im.z5).op, .int .i64 (cs.getD i Im.z5).a, .int .i64 (cs.getD i Im.z5).b, .int .i64 (cs.getD i Im.z5).c, .int .u64 (cs.getD i Im.z5).m][j]? := fun j hj => by
          have := (hq i hlt).1 j hj
          rwa [add_at, add_at] at this
        exact ⟨e 0 (by omega), e 1 (by omega), e 2 (by omega), e 3 (by omega), e 4 (by omega)⟩
theorem cells26 : Tryd.prog.cellsOf 26 = 6 := by kernel_rfl
theorem cells22 : Tryd.prog.cellsOf 22 = 1 := by kernel_rfl
theorem cells23 : Tryd.prog.cellsOf 23 = 1 := by kernel_rfl
theorem cells24 : Tryd.prog.cellsOf 24 = 1 := by kernel_rfl
/-- An image that comes in. -/
theorem open_img {base : Nat} {v : Value} {d : DataW H} {p : List MemPlace} (hv : Value.okWide Tryd.prog W .any base 26 v) (h : DataW.Trod enc Tryd.prog W b sp hd 26 v d p) (hsp : ∀ k, sp k = true) :
    ∃ (mem stk inp : Int) (Ad : Option Addr) (ld cd : Nat) (Af : Option Addr) (lf cf : Nat) (Ac : Option Addr) (lc cc : Nat) (P : Im.Pic), v = .agg #[.int .i64 mem, .int .i64 stk, .int .i64 inp, .slice Ad ld cd, .slice Af lf cf, .slice Ac lc cc] ∧ ImAt W Ad ld cd Af lf cf Ac lc cc P ∧ P.mem = mem ∧ P.stk = stk ∧ P.inp = inp := by
  obtain ⟨cs, rfl, hsz⟩ := okWide_struct Tryd.underlying26 hv
  obtain ⟨l⟩ := cs
  match l, hsz.trans cells26 with
  | [v0, v1, v2, v3, v4, v5], _ =>
    obtain ⟨fuel, hf⟩ := h
    obtain ⟨xs, n, _, hx, _, hlen, hg⟩ := DataW.trod_struct Tryd.underlying26 hf
    have g0 := hg 0 _ rfl
    have g1 := hg 1 _ rfl
    have g2 := hg 2 _ rfl
    have g3 := hg 3 _ rfl
    have g4 := hg 4 _ rfl
    have g5 := hg 5 _ rfl
    match xs, hlen with
    | [y0, y1, y2, y3, y4, y5], _ =>
      simp [Value.cells, cells3, cells22, cells23, cells24] at g0 g1 g2 g3 g4 g5
      obtain ⟨n0, e0, _, _⟩ := DataW.trod_int Tryd.underlying3 g0
      obtain ⟨n1, e1, _, _⟩ := DataW.trod_int Tryd.underlying3 g1
      obtain ⟨n2, e2, _, _⟩ := DataW.trod_int Tryd.underlying3 g2
      simp at e0 e1 e2
      subst e0 e1 e2
      obtain ⟨Ad, ld, cd, ds, rfl, hd'⟩ := bytes_of_trod g3 hsp
      obtain ⟨Af, lf, cf, fs, rfl, hf'⟩ := ints_of_trod g4 hsp
      obtain ⟨Ac, lc, cc, cs, rfl, hc'⟩ := code_of_trod g5 hsp
      exact ⟨n0, n1, n2, Ad, ld, cd, Af, lf, cf, Ac, lc, cc, ⟨n0, n1, n2, ds, fs, cs⟩, rfl, ⟨hd', hf', hc'⟩, rfl, rfl, rfl⟩
end
end Go.Proofs.YthkhadbeomkihaaDoor
