/-
  Slices of bytes that come in; an instruction's bytes, there and back.
-/
import Derived.Test.YthkhadbeomkihaaDoorCdW6
import Derived.Test.YthkhadbeomkihaaDoorSlAp
import Derived.ProofKit
import Derived.OpenShut
namespace Go.Proofs.YthkhadbeomkihaaDoor
set_option maxRecDepth 100000
open Go.RowKit Go.ChangeShapes Go.WideShapes Go.ChangeAt

/-- A slice of bytes, as it comes in. -/
structure BySl (w : World) (A : Option Addr) (len cap : Nat) (xs : List Int) : Prop where
  hlen : xs.length = len
  hle : len ≤ cap
  hcap : cap ≤ maxLen
  hnone : A = none → len = 0
  isB : Cd.isB xs
  mem : 0 < len → ∃ b o, A = some ⟨b, o, none⟩ ∧ b < w.heap.size ∧ Byts w ⟨b, o, none⟩ xs

theorem BySl.below {w w' : World} {A : Option Addr} {len cap : Nat} {xs : List Int} (h : BySl w A len cap xs) (hb : Below w.heap.size w w') : BySl w' A len cap xs :=
  ⟨h.hlen, h.hle, h.hcap, h.hnone, h.isB, fun h0 => by
    obtain ⟨b, o, e, hlt, hx⟩ := h.mem h0
    exact ⟨b, o, e, Nat.lt_of_lt_of_le hlt hb.size, hx.below hb hlt⟩⟩
theorem BySl.sl {w : World} {A : Option Addr} {len cap : Nat} {xs : List Int} (h : BySl w A len cap xs) : Sl w A len (xs.map (Value.int .u8)) :=
  ⟨by simpa using h.hlen, fun h0 => by
    obtain ⟨b, o, e, hlt, hx⟩ := h.mem h0
    exact ⟨b, o, e, hlt, hx.news⟩⟩
theorem one_cell (xs : List Int) : ∀ u ∈ xs.map (Value.int .u8), u.oneCell' = true := fun u hu => by
  obtain ⟨x, _, rfl⟩ := List.mem_map.1 hu
  rfl
/-- A row of bytes of the call's own. -/
theorem byts_of_sl {w : World} {A : Option Addr} {n : Nat} {xs : List Int} (h : Sl w A n (xs.map (Value.int .u8))) (h0 : 0 < n) : ∃ b o, A = some ⟨b, o, none⟩ ∧ b < w.heap.size ∧ Byts w ⟨b, o, none⟩ xs := by
  obtain ⟨b, o, e, hlt, hc⟩ := h.2 h0
  exact ⟨b, o, e, hlt, fun i hi => hc i _ (getD_map hi)⟩

theorem byte_of_wf {n : Int} (h : (Lit.int .u8 n).wf = true) : 0 ≤ n ∧ n ≤ 255 := by
  simpa [Lit.wf, IntKind.min, IntKind.max, IntKind.signed, IntKind.bits] using h
theorem isB_of {xs : List Int} (h : ∀ n ∈ xs, 0 ≤ n ∧ n ≤ 255) : Cd.isB xs := fun i => by
  rw [List.getD_eq_getElem?_getD]
  rcases Nat.lt_or_ge i xs.length with hi | hi
  · rw [List.getElem?_eq_getElem hi]; exact h _ (List.getElem_mem hi)
  · rw [List.getElem?_eq_none hi]; exact ⟨by decide, by decide⟩

theorem row_of_ints {H : Type} {enc : TypeId × Value → H} {W : World} {b : Nat} {sp : Nat → Bool} {hd : Bool} {A : Option Addr} {len cap : Nat} {d : DataW H} {p : List MemPlace}
    (h : DataW.Trod enc Tryd.prog W b sp hd 22 (.slice A len cap) d p) (hsp : ∀ k, sp k = true) : ∃ xs, BySl W A len cap xs := by
  obtain ⟨fuel, hf⟩ := h
  rcases open_ints Tryd.underlying22 Tryd.underlying5 (by kernel_rfl) hf with ⟨hcs, _⟩ | ⟨x, l, c, zs, hcs, _, hl, hm, hz, _, hcell, hwz⟩
  · simp [Value.cells] at hcs
    obtain ⟨rfl, rfl, rfl⟩ := hcs
    exact ⟨[], rfl, Nat.le_refl _, Nat.zero_le _, fun _ => rfl, isB_of (fun n hn => absurd hn (by simp)), fun h0 => absurd h0 (by omega)⟩
  · simp [Value.cells] at hcs
    obtain ⟨rfl, rfl, rfl⟩ := hcs
    have hzl : zs.length = cap := by simpa [hsp] using hz
    refine ⟨zs.take len, by rw [List.length_take]; omega, hl, hm, fun e => by simp at e, isB_of (fun n hn => byte_of_wf (hwz n (List.mem_of_mem_take hn))), fun h0 => ?_⟩
    obtain ⟨b', o, rfl, hc⟩ := ints_at hcell (by omega)
    have hx : Byts W ⟨b', o, Option.none⟩ (zs.take len) := fun i hi => by
      rw [List.length_take] at hi
      rw [add_at, hc i (by omega), List.getD_eq_getElem?_getD, List.getD_eq_getElem?_getD, List.getElem?_take_of_lt (by omega)]
    exact ⟨b', o, rfl, hx.lt (by rw [List.length_take]; omega), hx⟩

set_option maxRecDepth 20000 in
theorem open_ins {H : Type} {enc : TypeId × Value → H} {W : World} {base : Nat} {b : Nat} {sp : Nat → Bool} {hd : Bool} {v : Value} {d : DataW H} {p : List MemPlace}
    (hv : Value.okWide Tryd.prog W .any base 59 v) (h : DataW.Trod enc Tryd.prog W b sp hd 59 v d p) :
    ∃ op a b c m : Int, v = .agg #[.int .i64 op, .int .i64 a, .int .i64 b, .int .i64 c, .int .u64 m] ∧ 0 ≤ m ∧ m < 18446744073709551616 := by
  obtain ⟨cs, rfl, hsz⟩ := okWide_struct Tryd.underlying59 hv
  obtain ⟨l⟩ := cs
  have c24 : Tryd.prog.cellsOf 59 = 5 := by kernel_rfl
  have c3 : Tryd.prog.cellsOf 3 = 1 := by kernel_rfl
  have c22 : Tryd.prog.cellsOf 29 = 1 := by kernel_rfl
  match l, hsz.trans c24 with
  | [v0, v1, v2, v3, v4], _ =>
    obtain ⟨fuel, hf⟩ := h
    obtain ⟨xs, n, _, hx, _, hlen, hg⟩ := DataW.trod_struct Tryd.underlying59 hf
    have g0 := hg 0 _ rfl
    have g1 := hg 1 _ rfl
    have g2 := hg 2 _ rfl
    have g3 := hg 3 _ rfl
    have g4 := hg 4 _ rfl
    match xs, hlen with
    | [y0, y1, y2, y3, y4], _ =>
      simp [Value.cells] at g0 g1 g2 g3 g4
      obtain ⟨n0, e0, _, _⟩ := DataW.trod_int Tryd.underlying3 g0
      obtain ⟨n1, e1, _, _⟩ := DataW.trod_int Tryd.underlying3 g1
      obtain ⟨n2, e2, _, _⟩ := DataW.trod_int Tryd.underlying3 g2
      obtain ⟨n3, e3, _, _⟩ := DataW.trod_int Tryd.underlying3 g3
      obtain ⟨n4, e4, _, w4⟩ := DataW.trod_int Tryd.underlying29 g4
      simp [c3, c22] at e0 e1 e2 e3 e4
      subst e0 e1 e2 e3 e4
      have w4' : 0 ≤ n4 ∧ n4 ≤ 18446744073709551615 := by simpa [Lit.wf, IntKind.min, IntKind.max, IntKind.signed, IntKind.bits] using w4
      exact ⟨n0, n1, n2, n3, n4, rfl, by omega, by omega⟩

/-! ### There and back -/
theorem isB_append {xs ys : List Int} (h : Cd.isB xs) (k : Cd.isB ys) : Cd.isB (xs ++ ys) := fun i => by
  rw [List.getD_eq_getElem?_getD]
  rcases Nat.lt_or_ge i xs.length with hi | hi
  · rw [List.getElem?_append_left hi, ← List.getD_eq_getElem?_getD]; exact h i
  · rw [List.getElem?_append_right hi, ← List.getD_eq_getElem?_getD]; exact k _
theorem isB_bts {op a b c m : Int} (h : Cd.bad op a b c m = -1) : Cd.isB (Cd.bts op a b c m) := isB_of fun n hn => by
  obtain ⟨b0, b1, b2, b3, b4, b5, b6, b7⟩ := Cd.bad_none h
  simp [Cd.bts] at hn
  rcases hn with rfl | rfl | rfl | rfl | rfl | rfl | rfl | rfl | rfl | rfl | rfl | rfl <;> omega
theorem gotL_bts {op a b c m : Int} (h : Cd.bad op a b c m = -1) (m0 : 0 ≤ m) (m1 : m < 18446744073709551616) (rest : List Int) :
    Cd.gotL (Cd.bts op a b c m ++ rest) = .tuple #[.agg #[.int .i64 op, .int .i64 a, .int .i64 b, .int .i64 c, .int .u64 m], .int .i64 0, .int .i64 0] := by
  have e : Cd.val (Cd.bts op a b c m ++ rest) = m := by
    simp [Cd.val, Cd.bts]
    omega
  unfold Cd.gotL
  rw [e]
  simp only [Cd.bts, List.cons_append, List.getD_cons_zero, List.getD_cons_succ]
  rw [Cd.got, if_pos h]
theorem bts_val (xs : List Int) (hn : 12 ≤ xs.length) (hB : Cd.isB xs) : Cd.bts (xs.getD 0 0) (xs.getD 1 0) (xs.getD 2 0) (xs.getD 3 0) (Cd.val xs) = xs.take 12 := by
  match xs, hn with
  | x0 :: x1 :: x2 :: x3 :: x4 :: x5 :: x6 :: x7 :: x8 :: x9 :: x10 :: x11 :: rest, _ =>
    have i4 := hB 4
    have i5 := hB 5
    have i6 := hB 6
    have i7 := hB 7
    have i8 := hB 8
    have i9 := hB 9
    have i10 := hB 10
    have i11 := hB 11
    clear hB
    simp only [Cd.bts, Cd.val, List.getD_cons_zero, List.getD_cons_succ, List.take_succ_cons, List.take_zero, List.cons.injEq, true_and, and_true] at *
    omega
theorem val_bd (xs : List Int) (hB : Cd.isB xs) : 0 ≤ Cd.val xs ∧ Cd.val xs < 18446744073709551616 := by
  have i4 := hB 4
  have i5 := hB 5
  have i6 := hB 6
  have i7 := hB 7
  have i8 := hB 8
  have i9 := hB 9
  have i10 := hB 10
  have i11 := hB 11
  unfold Cd.val
  omega
/-- What Get answers of a row whose instruction is so, and of another. -/
theorem gotL_ok {xs : List Int} (h : Cd.bad (xs.getD 0 0) (xs.getD 1 0) (xs.getD 2 0) (xs.getD 3 0) (Cd.val xs) = -1) :
    Cd.gotL xs = .tuple #[.agg #[.int .i64 (xs.getD 0 0), .int .i64 (xs.getD 1 0), .int .i64 (xs.getD 2 0), .int .i64 (xs.getD 3 0), .int .u64 (Cd.val xs)], .int .i64 0, .int .i64 0] := by
  rw [Cd.gotL, Cd.got, if_pos h]
theorem gotL_bad {xs : List Int} (h : Cd.bad (xs.getD 0 0) (xs.getD 1 0) (xs.getD 2 0) (xs.getD 3 0) (Cd.val xs) ≠ -1) :
    ∃ e k : Int, (e != 0) = true ∧ Cd.gotL xs = .tuple #[.agg #[.int .i64 0, .int .i64 0, .int .i64 0, .int .i64 0, .int .u64 0], .int .i64 e, .int .i64 k] := by
  refine ⟨_, _, ?_, by rw [Cd.gotL, Cd.got, if_neg h]⟩
  rcases Cd.bad_cases (xs.getD 0 0) (xs.getD 1 0) (xs.getD 2 0) (xs.getD 3 0) (Cd.val xs) with e | e | e | e | e | e <;> rw [e] at h ⊢ <;> simp [Cd.er] at h ⊢
end Go.Proofs.YthkhadbeomkihaaDoor
