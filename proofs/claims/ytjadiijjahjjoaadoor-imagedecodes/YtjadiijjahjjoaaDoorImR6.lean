/-
  The reader's image: its first half, up to how many instructions there are.
-/
import Derived.Test.YtjadiijjahjjoaaDoorImR5
import Derived.Deep.RegionWith
namespace Go.Proofs.YtjadiijjahjjoaaDoor
open Go.RowKit

/-- The block of an image that is read. -/
abbrev PB (W : World) (G : Nat) (a b c d e f : Value) : Prop := W.heap[G]? = some (.cells #[a, b, c, d, e, f] 26 (0, 0))
section
variable {W : World} {G : Nat} {a b c d e f : Value}
theorem PB.c0 (h : PB W G a b c d e f) : W.cell? ⟨G, 0, none⟩ = some a := by rw [cell_of_row _ _ _ _ _ _ h]; rfl
theorem PB.c1 (h : PB W G a b c d e f) : W.cell? ⟨G, 1, none⟩ = some b := by rw [cell_of_row _ _ _ _ _ _ h]; rfl
theorem PB.c2 (h : PB W G a b c d e f) : W.cell? ⟨G, 2, none⟩ = some c := by rw [cell_of_row _ _ _ _ _ _ h]; rfl
theorem PB.c3 (h : PB W G a b c d e f) : W.cell? ⟨G, 3, none⟩ = some d := by rw [cell_of_row _ _ _ _ _ _ h]; rfl
theorem PB.c4 (h : PB W G a b c d e f) : W.cell? ⟨G, 4, none⟩ = some e := by rw [cell_of_row _ _ _ _ _ _ h]; rfl
theorem PB.c5 (h : PB W G a b c d e f) : W.cell? ⟨G, 5, none⟩ = some f := by rw [cell_of_row _ _ _ _ _ _ h]; rfl
theorem PB.fr (h : PB W G a b c d e f) (i : Nat) : W.frozen? ⟨G, i, none⟩ = false := Joins.unfrozen_of_block h i
theorem PB.lt (h : PB W G a b c d e f) : G < W.heap.size := blk_lt (t := 26) h
theorem PB.s0 (h : PB W G a b c d e f) (x : Value) : PB (W.setCell ⟨G, 0, none⟩ x) G x b c d e f := Joins.block_setCell h x
theorem PB.s1 (h : PB W G a b c d e f) (x : Value) : PB (W.setCell ⟨G, 1, none⟩ x) G a x c d e f := Joins.block_setCell h x
theorem PB.s2 (h : PB W G a b c d e f) (x : Value) : PB (W.setCell ⟨G, 2, none⟩ x) G a b x d e f := Joins.block_setCell h x
theorem PB.s3 (h : PB W G a b c d e f) (x : Value) : PB (W.setCell ⟨G, 3, none⟩ x) G a b c x e f := Joins.block_setCell h x
theorem PB.s4 (h : PB W G a b c d e f) (x : Value) : PB (W.setCell ⟨G, 4, none⟩ x) G a b c d x f := Joins.block_setCell h x
theorem PB.s5 (h : PB W G a b c d e f) (x : Value) : PB (W.setCell ⟨G, 5, none⟩ x) G a b c d e x := Joins.block_setCell h x
theorem PB.other (h : PB W G a b c d e f) {p : Addr} (hp : G ≠ p.block) (u : Value) : PB (W.setCell p u) G a b c d e f := (Below.heap_setCell _ _ _ _ hp).trans h
theorem PB.keep {W' : World} (h : PB W G a b c d e f) (hb : Below W.heap.size W W') : PB W' G a b c d e f := (hb.block G h.lt).trans h
theorem PB.rd {W' : World} {g : Nat} (h : PB W G a b c d e f) (hr : Rd g W W') (hn : G ≠ g) : PB W' G a b c d e f := (hr.block G h.lt hn).trans h
end

/-- What lies in memory while an image is read: the reader, its bytes, the result's block, the image's. -/
structure St (w : World) (g GR GP : Nat) (A : Option Addr) (len cap i : Nat) (xs : List Int) (a b c d e f : Value) (W : World) : Prop where
  rd : Rd g w W
  rb : RB W g A len cap i
  by0 : ByR g w A len cap xs
  pr : PB W GR (.int .i64 0) (.int .i64 0) (.int .i64 0) (.slice none 0 0) (.slice none 0 0) (.slice none 0 0)
  pb : PB W GP a b c d e f
  h1 : w.heap.size ≤ GR
  h2 : GR < GP
  h3 : g < w.heap.size
section
variable {w W W' : World} {g GR GP : Nat} {A : Option Addr} {len cap i : Nat} {xs : List Int} {a b c d e f : Value}
theorem St.step {j : Nat} (h : St w g GR GP A len cap i xs a b c d e f W) (hr : Rd g W W') (hb : RB W' g A len cap j) : St w g GR GP A len cap j xs a b c d e f W' :=
  ⟨h.rd.trans hr, hb, h.by0, h.pr.rd hr (by have := h.h1; have := h.h3; omega), h.pb.rd hr (by have := h.h1; have := h.h2; have := h.h3; omega), h.h1, h.h2, h.h3⟩
theorem St.keep (h : St w g GR GP A len cap i xs a b c d e f W) (hb : Below W.heap.size W W') : St w g GR GP A len cap i xs a b c d e f W' := h.step (Rd.of_below hb) (h.rb.keep hb)
theorem St.put {p : Addr} {u : Value} {a' b' c' d' e' f' : Value} (h : St w g GR GP A len cap i xs a b c d e f W) (hp : p.block = GP) (hb : PB (W.setCell p u) GP a' b' c' d' e' f') : St w g GR GP A len cap i xs a' b' c' d' e' f' (W.setCell p u) := by
  have g1 := h.h1
  have g2 := h.h2
  have g3 := h.h3
  exact ⟨h.rd.setNew (by omega) u, h.rb.other (by omega) u, h.by0, h.pr.other (by omega) u, hb, g1, g2, g3⟩
theorem St.by_ (h : St w g GR GP A len cap i xs a b c d e f W) : ByR g W A len cap xs := h.by0.rd h.rd
theorem St.n1 (h : St w g GR GP A len cap i xs a b c d e f W) : ¬ GP = g := by have := h.h1; have := h.h2; have := h.h3; omega
end

/-- A slice of bytes between two bounds of blocks. -/
structure Dat (W : World) (A : Option Addr) (n cap : Nat) (ys : List Int) (B M : Nat) : Prop where
  sl : BySl W A n cap ys
  bd : ∀ b o s, A = some ⟨b, o, s⟩ → B ≤ b ∧ b < M
theorem Dat.move {W W' : World} {A : Option Addr} {n cap : Nat} {ys : List Int} {B M : Nat} (h : Dat W A n cap ys B M) (hs : W.heap.size ≤ W'.heap.size) (hb : ∀ k, B ≤ k → k < M → W'.heap[k]? = W.heap[k]?) : Dat W' A n cap ys B M :=
  ⟨⟨h.sl.hlen, h.sl.hle, h.sl.hcap, h.sl.hnone, h.sl.isB, fun h0 => by
    obtain ⟨b, o, e, hlt, hx⟩ := h.sl.mem h0
    have hB := h.bd b o none e
    refine ⟨b, o, e, by omega, fun i hi => ?_⟩
    have := hx i hi
    rw [add_at] at this ⊢
    exact (World.cell?_of_block (w := W) (hb b hB.1 hB.2)).trans this⟩, h.bd⟩
theorem Dat.rd {W W' : World} {A : Option Addr} {n cap : Nat} {ys : List Int} {B M g : Nat} (h : Dat W A n cap ys B M) (hr : Rd g W W') (hg : g < B) (hM : M ≤ W.heap.size) : Dat W' A n cap ys B M :=
  h.move hr.size fun k h1 h2 => hr.block k (by omega) (by omega)
theorem Dat.set {W : World} {A : Option Addr} {n cap : Nat} {ys : List Int} {B M : Nat} (h : Dat W A n cap ys B M) {p : Addr} {u : Value} (hp : p.block < B ∨ M ≤ p.block) : Dat (W.setCell p u) A n cap ys B M :=
  h.move (by simp) fun k h1 h2 => Below.heap_setCell _ _ _ _ (by omega)
theorem Dat.keep {W W' : World} {A : Option Addr} {n cap : Nat} {ys : List Int} {B M : Nat} (h : Dat W A n cap ys B M) (hb : Below W.heap.size W W') (hM : M ≤ W.heap.size) : Dat W' A n cap ys B M :=
  h.move hb.size fun k _ h2 => hb.block k (by omega)
theorem Dat.of_own {W : World} {A : Option Addr} {n cap : Nat} {ys : List Int} {B : Nat} (h : W.ownsRow B 5 1 (.slice A n cap) n (ys.map (Value.int .u8))) (hB : Cd.isB ys) : Dat W A n cap ys B W.heap.size := by
  refine ⟨BySl.of_own h hB, fun b o s e => ?_⟩
  subst e
  rcases h.2 with ⟨e, _⟩ | ⟨g, cap', cur, e, hg, hh, _⟩
  · cases e
  · injection e with e1
    simp only [Option.some.injEq, Addr.mk.injEq] at e1
    obtain ⟨rfl, _, _⟩ := e1
    exact ⟨hg, blk_lt (t := 5) (cs := cur) hh⟩

/-- The cells of an instruction. -/
def cellI (i : Im.I5) (r : Nat) : Value := if r = 0 then .int .i64 i.op else if r = 1 then .int .i64 i.a else if r = 2 then .int .i64 i.b else if r = 3 then .int .i64 i.c else .int .u64 i.m
theorem rowIs_code (W : World) (n : Nat) : (W.alloc (.cells (madeCells #[.int .i64 0, .int .i64 0, .int .i64 0, .int .i64 0, .int .u64 0] (n * 5)) 43)).rowIs W.heap.size 43 (n * 5) (fun j => cellI Im.z5 (j % 5)) := by
  have h := World.rowIs_alloc W (madeCells #[.int .i64 0, .int .i64 0, .int .i64 0, .int .i64 0, .int .u64 0] (n * 5)) 43 (fun j => cellI Im.z5 (j % 5)) (fun i hi => ?_)
  · rw [size_madeCells] at h
    exact h
  · rw [size_madeCells] at hi
    simp only [madeCells]
    rw [Array.getElem?_map, Array.getElem?_eq_getElem (by simpa using hi)]
    simp only [Array.getElem_range, Option.map_some, Option.some.injEq]
    have h5 : i % 5 < 5 := Nat.mod_lt _ (by decide)
    show (#[Value.int .i64 0, .int .i64 0, .int .i64 0, .int .i64 0, .int .u64 0] : Array Value)[i % 5]! = _
    generalize i % 5 = r at *
    match r, h5 with
    | 0, _ | 1, _ | 2, _ | 3, _ | 4, _ => rfl
theorem cellI_code {W : World} {G n : Nat} {f : Nat → Im.I5} (h : W.rowIs G 43 (n * 5) (fun j => cellI (f (j / 5)) (j % 5))) {k : Nat} (hk : k < n) : InsAt W G (k * 5) (f k) := by
  have e : ∀ r, r < 5 → W.cell? ⟨G, k * 5 + r, none⟩ = some (cellI (f k) r) := fun r hr => by
    have := h.cell (i := k * 5 + r) (by omega)
    rw [show (k * 5 + r) / 5 = k by omega, show (k * 5 + r) % 5 = r by omega] at this
    exact this
  exact ⟨e 0 (by omega), e 1 (by omega), e 2 (by omega), e 3 (by omega), e 4 (by omega)⟩

theorem row_ins {v : World} {G n k : Nat} {F : Nat → Im.I5} (h : v.rowIs G 43 (n * 5) (fun j => cellI (if j / 5 < k then F (j / 5) else Im.z5) (j % 5))) :
    (((((v.setCell ⟨G, k * 5, none⟩ (.int .i64 (F k).op)).setCell ⟨G, k * 5 + 1, none⟩ (.int .i64 (F k).a)).setCell ⟨G, k * 5 + 2, none⟩ (.int .i64 (F k).b)).setCell ⟨G, k * 5 + 3, none⟩ (.int .i64 (F k).c)).setCell ⟨G, k * 5 + 4, none⟩ (.int .u64 (F k).m)).rowIs G 43 (n * 5)
      (fun j => cellI (if j / 5 < k + 1 then F (j / 5) else Im.z5) (j % 5)) := by
  refine (((((h.set (k * 5) _).set (k * 5 + 1) _).set (k * 5 + 2) _).set (k * 5 + 3) _).set (k * 5 + 4) _).congr fun j _ => ?_
  by_cases e4 : j = k * 5 + 4
  · subst e4
    rw [if_pos rfl, if_pos (by omega), show (k * 5 + 4) / 5 = k by omega, show (k * 5 + 4) % 5 = 4 by omega]; rfl
  by_cases e3 : j = k * 5 + 3
  · subst e3
    rw [if_neg e4, if_pos rfl, if_pos (by omega), show (k * 5 + 3) / 5 = k by omega, show (k * 5 + 3) % 5 = 3 by omega]; rfl
  by_cases e2 : j = k * 5 + 2
  · subst e2
    rw [if_neg e4, if_neg e3, if_pos rfl, if_pos (by omega), show (k * 5 + 2) / 5 = k by omega, show (k * 5 + 2) % 5 = 2 by omega]; rfl
  by_cases e1 : j = k * 5 + 1
  · subst e1
    rw [if_neg e4, if_neg e3, if_neg e2, if_pos rfl, if_pos (by omega), show (k * 5 + 1) / 5 = k by omega, show (k * 5 + 1) % 5 = 1 by omega]; rfl
  by_cases e0 : j = k * 5
  · subst e0
    rw [if_neg e4, if_neg e3, if_neg e2, if_neg e1, if_pos rfl, if_pos (by omega), show k * 5 / 5 = k by omega, show k * 5 % 5 = 0 by omega]; rfl
  rw [if_neg e4, if_neg e3, if_neg e2, if_neg e1, if_neg e0]
  by_cases hk : j / 5 < k
  · rw [if_pos hk, if_pos (by omega)]
  · rw [if_neg hk, if_neg (by omega)]
theorem InSl.of_row {W : World} {G n : Nat} {f : Nat → Int} (h : W.rowIs G 3 n (fun j => .int .i64 (f j))) (hn : n ≤ 100000) : InSl W (some ⟨G, 0, none⟩) n n ((List.range n).map f) :=
  ⟨by simp, Nat.le_refl _, by unfold maxLen; omega, (fun e => by cases e), fun _ => ⟨G, 0, rfl, h.lt, fun i hi => by
    rw [Nat.zero_add, h.cell hi, List.getD_eq_getElem?_getD, List.getElem?_map, List.getElem?_range hi]; rfl⟩⟩
theorem getD_range {α : Type} {n : Nat} {f : Nat → α} {z : α} {i : Nat} (h : i < n) : ((List.range n).map f).getD i z = f i := by
  rw [List.getD_eq_getElem?_getD, List.getElem?_map, List.getElem?_range h]; rfl
theorem CoSl.of_row {W : World} {G n : Nat} {f : Nat → Im.I5} (h : W.rowIs G 43 (n * 5) (fun j => cellI (if j / 5 < n then f (j / 5) else Im.z5) (j % 5))) (hn : n ≤ 100000) (h0 : 0 < n) (hm : ∀ i, 0 ≤ (f i).m ∧ (f i).m < 18446744073709551616) : CoSl W (some ⟨G, 0, none⟩) n n ((List.range n).map f) := by
  have h' : W.rowIs G 43 (n * 5) (fun j => cellI (f (j / 5)) (j % 5)) := h.congr fun j hj => by rw [if_pos (by omega)]
  refine ⟨by simp, Nat.le_refl _, by unfold maxLen; omega, (fun e => by cases e), fun i => ?_, fun _ => ⟨G, 0, rfl, h.lt, fun i hi => ?_⟩⟩
  · rcases Nat.lt_or_ge i n with h1 | h1
    · rw [getD_range h1]; exact hm i
    · rw [Im.getD_past (by simpa using h1)]; exact ⟨by decide, by decide⟩
  · rw [Nat.zero_add, getD_range hi]
    exact cellI_code h' hi
theorem Rd.drew1 (g : Nat) (w : World) : Rd g w w.drew := ⟨rfl, rfl, rfl, Nat.le_refl _, fun _ _ _ => rfl⟩
theorem pdrew {W : World} {p : Addr} {x : Value} (h : W.cell? p = some x) : W.drew.cell? p = some x := h
theorem pset {W : World} {GP GC o : Nat} {x u : Value} (h : GP ≠ GC) (hp : W.cell? ⟨GP, 5, none⟩ = some x) : (W.setCell ⟨GC, o, none⟩ u).cell? ⟨GP, 5, none⟩ = some x :=
  (World.cell?_of_block (w := W) (Below.heap_setCell _ _ _ _ h)).trans hp
theorem St.far {w W : World} {g GR GP : Nat} {A : Option Addr} {len cap i : Nat} {xs : List Int} {a b c d e f : Value} (h : St w g GR GP A len cap i xs a b c d e f W) {p : Addr} (hp : GP < p.block) (u : Value) : St w g GR GP A len cap i xs a b c d e f (W.setCell p u) := by
  have g1 := h.h1
  have g2 := h.h2
  have g3 := h.h3
  exact ⟨h.rd.setNew (by omega) u, h.rb.other (by omega) u, h.by0, h.pr.other (by omega) u, h.pb.other (by omega) u, g1, g2, g3⟩
theorem places_of {xs : List Int} {a f nk : Nat} (h : ∀ q, q < f → Im.fBad xs a q = false) (h1 : 1 ≤ f) (hl : a + 2 * f ≤ xs.length) (hk : Im.fa xs a (f - 1) < nk) : Im.Places ((List.range f).map (Im.fa xs a)) nk := by
  refine ⟨?_, fun k hkk => ?_, ?_⟩
  · rw [getD_range (by omega)]
    have h0 := h 0 (by omega)
    rw [fBad_zero (by omega)] at h0
    simpa using h0
  · rw [List.length_map, List.length_range] at hkk
    rw [getD_range (by omega), getD_range (by omega)]
    have h0 := h (k + 1) (by omega)
    rw [fBad_succ (by omega)] at h0
    have := of_decide_eq_false h0
    omega
  · rw [List.length_map, List.length_range, getD_range (by omega)]
    exact hk
theorem iBad_short {xs : List Int} {a q : Nat} (h : xs.length < a + 12 * q + 12) : Im.iBad xs a q = true := by
  unfold Im.iBad
  rw [decide_eq_true h]
  rfl
theorem iBad_in {xs : List Int} {a q : Nat} (h : a + 12 * q + 12 ≤ xs.length) : Im.iBad xs a q = decide (Im.bad5 (Im.insAt xs a q) ≠ -1) := by
  unfold Im.iBad
  rw [decide_eq_false (by omega), Bool.false_or]
theorem fl_bd (fs : List Int) (cs : List Im.I5) : 0 ≤ Im.flI fs cs ∧ Im.flI fs cs ≤ cs.length := by
  unfold Im.flI
  split <;> omega

/-- What the reader's image does. -/
def ImgP (g : Nat) (xs : List Int) (w : World) (e : Ending) (w' : World) : Prop :=
  Rd g w w' ∧ ((∃ a b, e = flt a b ∧ a ≠ 0 ∧ Im.dE xs = (a, b)) ∨ (Im.dE xs = (0, 0) ∧ ∃ Ad ld cd Af lf cf Ac lc cc, e = .returned (.agg #[.int .i64 (Im.num xs 5 1), .int .i64 (Im.num xs 6 1), .int .i64 (Im.num xs 7 1), .slice Ad ld cd, .slice Af lf cf, .slice Ac lc cc]) ∧ ImAt w' Ad ld cd Af lf cf Ac lc cc (Im.pic xs) ∧ (∀ b o s, Ad = some ⟨b, o, s⟩ → w.heap.size ≤ b) ∧ (∀ b o s, Af = some ⟨b, o, s⟩ → w.heap.size ≤ b) ∧ (∀ b o s, Ac = some ⟨b, o, s⟩ → w.heap.size ≤ b)))
theorem ImgP.bad {g : Nat} {xs : List Int} {w w' : World} {a b : Int} (hr : Rd g w w') (ha : a ≠ 0) (hd : Im.dE xs = (a, b)) : ImgP g xs w (flt a b) w' := ⟨hr, .inl ⟨a, b, rfl, ha, hd⟩⟩
theorem ins_info : ∃ i, Tryd.prog.info? 43 = some i ∧ i.zero = some (.agg #[.int .i64 0, .int .i64 0, .int .i64 0, .int .i64 0, .int .u64 0]) ∧ i.size = 5 ∧ i.bytes = 40 := by
  have h : (Tryd.prog.info? 43).map (fun i => (i.zero, i.size, i.bytes)) = some (some (.agg #[.int .i64 0, .int .i64 0, .int .i64 0, .int .i64 0, .int .u64 0]), 5, 40) := by kernel_rfl
  obtain ⟨i, hi, hz⟩ := Option.map_eq_some_iff.1 h
  simp only [Prod.mk.injEq] at hz
  exact ⟨i, hi, hz⟩

set_option maxRecDepth 10000 in
set_option maxHeartbeats 4000000 in
theorem image_any (g : Nat) (A : Option Addr) (len cap : Nat) (xs : List Int) (w : World) (ho : Ops w) (hog : 0 < g) (hb : RB w g A len cap (0 : Nat)) (hx : ByR g w A len cap xs) (hl : len ≤ 1000000000000) :
    Calls Tryd.prog 26 #[.pointer (some ⟨g, 0, none⟩)] w (ImgP g xs w) := by
  have HL := Lib.hid hx.sl.hlen
  have hB := Lib.hid hx.sl.isB
  have hg := hb.lt
  have HO := Lib.hid ho
  have HX0 := Lib.hid hx
  have H0 := Lib.hid (Below.box w (.cells #[.int .i64 0, .int .i64 0, .int .i64 0, .slice none 0 0, .slice none 0 0, .slice none 0 0] 26))
  have HB0 := Lib.hid (hb.keep H0.out)
  have HXX := Lib.hid (hx.keep H0.out)
  clear ho hb hx
  go_enter Tryd.func26, Tryd.ntmps26
  go_wp2_with fail
  refine (form_any g A len cap xs _ HB0.out HXX.out).mono ?_
  rintro e v ⟨hr, ⟨a, b, rfl, ha, hd⟩ | ⟨hd, rfl, h5, hb⟩⟩
  · exact ⟨rfl, ImgP.bad ((Rd.of_below H0.out).trans hr) ha (hd _)⟩
  have hE : Im.dE xs = Im.t5 xs := hd _
  have hS : St w g w.heap.size v.heap.size A len cap 5 xs (.int .i64 0) (.int .i64 0) (.int .i64 0) (.slice none 0 0) (.slice none 0 0) (.slice none 0 0) (v.alloc (.cells #[.int .i64 0, .int .i64 0, .int .i64 0, .slice none 0 0, .slice none 0 0, .slice none 0 0] 26)) := by
    have hz := hr.size
    simp at hz
    have hbx := Below.box v (.cells #[.int .i64 0, .int .i64 0, .int .i64 0, .slice none 0 0, .slice none 0 0, .slice none 0 0] 26)
    refine ⟨((Rd.of_below H0.out).trans hr).trans (Rd.of_below hbx), hb.keep hbx, HX0.out, ?_, heap_alloc_new v _, Nat.le_refl _, by omega, hg⟩
    exact PB.keep ((hr.block w.heap.size (by simp) (by omega)).trans (heap_alloc_new w _)) hbx
  have HE := Lib.hid hE
  have HS := Lib.hid hS
  clear hE hS hd hb hr HB0 HXX
  obtain ⟨b, o, rfl, hbw, _⟩ := HX0.out.sl.mem (by omega)
  go_wp2_with fail
  revert HS
  generalize (v.alloc (.cells #[.int .i64 0, .int .i64 0, .int .i64 0, .slice none 0 0, .slice none 0 0, .slice none 0 0] 26)) = W
  generalize v.heap.size = GP
  intro HS
  refine (number_any g _ len cap 5 1 0 64 xs _ HS.out.rb HS.out.by_ (by omega) (.inl rfl)).mono ?_
  rintro e v ⟨hr, ⟨k1, rfl⟩ | ⟨k1, k2, rfl⟩ | ⟨k1, k2, k3, rfl, hb⟩⟩
  · exact ⟨rfl, ImgP.bad (HS.out.rd.trans hr) (by decide) (HE.out.trans (by unfold Im.t5; rw [Im.nm_short (by rw [HL.out]; exact k1), HL.out]))⟩
  · exact ⟨rfl, ImgP.bad (HS.out.rd.trans hr) (by decide) (HE.out.trans (by unfold Im.t5; rw [Im.nm_bad (by rw [HL.out]; exact k1) k2]; try rfl))⟩
  have HE := Lib.hid (HE.out.trans (show Im.t5 xs = Im.t6 xs from Im.nm_ok (by rw [HL.out]; exact k1) k2 k3 _))
  have hS := HS.out.step hr hb
  have c0 := hS.pb.c0
  have f0 := hS.pb.fr 0
  have HS' := Lib.hid (hS.put (p := ⟨GP, 0, none⟩) (u := .int .i64 (Im.num xs 5 1)) rfl (hS.pb.s0 _))
  have q0 := And.intro k2 k3
  have l0 := k1
  clear k1
  clear hS hr hb HS k2 k3
  go_wp2_with fail
  clear c0 f0
  generalize (v.setCell ⟨GP, 0, none⟩ (.int .i64 (Im.num xs 5 1))) = W at *
  have HS := HS'
  clear HS'
  refine (number_any g _ len cap 6 1 0 16 xs _ HS.out.rb HS.out.by_ (by omega) (.inl rfl)).mono ?_
  rintro e v ⟨hr, ⟨k1, rfl⟩ | ⟨k1, k2, rfl⟩ | ⟨k1, k2, k3, rfl, hb⟩⟩
  · exact ⟨rfl, ImgP.bad (HS.out.rd.trans hr) (by decide) (HE.out.trans (by unfold Im.t6; rw [Im.nm_short (by rw [HL.out]; exact k1), HL.out]))⟩
  · exact ⟨rfl, ImgP.bad (HS.out.rd.trans hr) (by decide) (HE.out.trans (by unfold Im.t6; rw [Im.nm_bad (by rw [HL.out]; exact k1) k2]; try rfl))⟩
  have HE := Lib.hid (HE.out.trans (show Im.t6 xs = Im.t7 xs from Im.nm_ok (by rw [HL.out]; exact k1) k2 k3 _))
  have hS := HS.out.step hr hb
  have c0 := hS.pb.c1
  have f0 := hS.pb.fr 1
  have HS' := Lib.hid (hS.put (p := ⟨GP, 1, none⟩) (u := .int .i64 (Im.num xs 6 1)) rfl (hS.pb.s1 _))
  have q1 := And.intro k2 k3
  have l1 := k1
  clear k1
  clear hS hr hb HS k2 k3
  go_wp2_with fail
  clear c0 f0
  generalize (v.setCell ⟨GP, 1, none⟩ (.int .i64 (Im.num xs 6 1))) = W at *
  have HS := HS'
  clear HS'
  refine (number_any g _ len cap 7 1 0 16 xs _ HS.out.rb HS.out.by_ (by omega) (.inl rfl)).mono ?_
  rintro e v ⟨hr, ⟨k1, rfl⟩ | ⟨k1, k2, rfl⟩ | ⟨k1, k2, k3, rfl, hb⟩⟩
  · exact ⟨rfl, ImgP.bad (HS.out.rd.trans hr) (by decide) (HE.out.trans (by unfold Im.t7; rw [Im.nm_short (by rw [HL.out]; exact k1), HL.out]))⟩
  · exact ⟨rfl, ImgP.bad (HS.out.rd.trans hr) (by decide) (HE.out.trans (by unfold Im.t7; rw [Im.nm_bad (by rw [HL.out]; exact k1) k2]; try rfl))⟩
  have HE := Lib.hid (HE.out.trans (show Im.t7 xs = Im.t8 xs from Im.nm_ok (by rw [HL.out]; exact k1) k2 k3 _))
  have hS := HS.out.step hr hb
  have c0 := hS.pb.c2
  have d0 := hS.pb.c0
  have f0 := hS.pb.fr 2
  have HS' := Lib.hid (hS.put (p := ⟨GP, 2, none⟩) (u := .int .i64 (Im.num xs 7 1)) rfl (hS.pb.s2 _))
  have q2 := And.intro k2 k3
  have l2 := k1
  clear k1
  clear hS hr hb HS k2 k3
  go_wp2_with fail
  clear c0 f0 d0
  generalize (v.setCell ⟨GP, 2, none⟩ (.int .i64 (Im.num xs 7 1))) = W at *
  have HS := HS'
  clear HS'
  refine (number_any g _ len cap 8 1 0 (Im.num xs 5 1) xs _ HS.out.rb HS.out.by_ (by omega) (.inl rfl)).mono ?_
  rintro e v ⟨hr, ⟨k1, rfl⟩ | ⟨k1, k2, rfl⟩ | ⟨k1, k2, k3, rfl, hb⟩⟩
  · exact ⟨rfl, ImgP.bad (HS.out.rd.trans hr) (by decide) (HE.out.trans (by unfold Im.t8; rw [Im.nm_short (by rw [HL.out]; exact k1), HL.out]))⟩
  · exact ⟨rfl, ImgP.bad (HS.out.rd.trans hr) (by decide) (HE.out.trans (by unfold Im.t8; rw [Im.nm_bad (by rw [HL.out]; exact k1) k2]; try rfl))⟩
  have HE := Lib.hid (HE.out.trans (show Im.t8 xs = Im.t9 xs from Im.nm_ok (by rw [HL.out]; exact k1) k2 k3 _))
  have l3 := k1
  have q3 := And.intro k2 k3
  have hS := HS.out.step hr hb
  have HS' := Lib.hid hS
  have hnd : Im.num xs 8 1 = (Im.nd xs : Int) := by unfold Im.nd; omega
  have hnd1 : Im.nd xs ≤ 64 := by omega
  rw [hnd]
  clear hS hr hb HS k1 k2 k3
  have HS := HS'
  clear HS'
  go_wp2_with fail
  rcases Nat.lt_or_ge len (9 + Im.nd xs) with hsh | hsh
  · refine (part_short g _ len cap 9 (Im.nd xs) v HS.out.rb (by omega) (by omega) (by omega) hsh).mono ?_
    rintro e v1 ⟨rfl, hr⟩
    exact ⟨rfl, ImgP.bad (HS.out.rd.trans hr) (by decide) (HE.out.trans (by unfold Im.t9; rw [HL.out, if_pos hsh]))⟩
  have hcp := HX0.out.sl.hcap
  unfold maxLen at hcp
  refine (part_ok g b o len cap 9 (Im.nd xs) xs v HS.out.rb HS.out.by_ (by omega) hsh).mono ?_
  rintro e v1 ⟨A1, cap1, rfl, hx1, hb1, hr1, hA1⟩
  have HE := Lib.hid (HE.out.trans (show Im.t9 xs = Im.t10 xs by unfold Im.t9; rw [HL.out, if_neg (by omega)]))
  have HS' := Lib.hid (HS.out.step (j := 9 + Im.nd xs) hr1 hb1)
  have HX1 := Lib.hid hx1.sl
  have HA1 := Lib.hid hA1
  clear HS hx1 hb1 hr1 hA1 hcp
  have HS := HS'
  clear HS'
  go_wp2_with fail
  refine (clone_any A1 (Im.nd xs) cap1 _ v1 HX1.out HA1.out (by omega)).mono ?_
  rintro e v2 ⟨A2, cap2, rfl, hown, hb2⟩
  have hS := HS.out.keep hb2
  have HD0 : Dat v2 A2 (Im.nd xs) cap2 ((xs.drop 9).take (Im.nd xs)) v1.heap.size v2.heap.size := Dat.of_own hown (isB_cut hB.out _ _)
  have hB1 := HS.out.pb.lt
  have c0 := hS.pb.c3
  have f0 := hS.pb.fr 3
  have HS' := Lib.hid (hS.put (p := ⟨GP, 3, none⟩) (u := .slice A2 (Im.nd xs) cap2) rfl (hS.pb.s3 _))
  have HD := Lib.hid (HD0.set (p := ⟨GP, 3, none⟩) (u := .slice A2 (Im.nd xs) cap2) (.inl hB1))
  have hgB : g < v1.heap.size := by have := HS.out.rd.size; omega
  have hM : v2.heap.size ≤ (v2.setCell ⟨GP, 3, none⟩ (.slice A2 (Im.nd xs) cap2)).heap.size := by simp
  clear hS HS HD0 hb2 hown HX1
  go_wp2_with fail
  clear c0 f0
  generalize (v2.setCell ⟨GP, 3, none⟩ (.slice A2 (Im.nd xs) cap2)) = W at *
  generalize v2.heap.size = M at *
  generalize v1.heap.size = B at *
  have HS := HS'
  clear HS'
  refine (funs_any g _ len cap (9 + Im.nd xs) (Im.nf xs) xs W HS.out.rb HS.out.by_ hsh hl rfl).mono ?_
  rintro e v3 ⟨hr, ⟨a, b', rfl, ha, hd⟩ | ⟨hd, GF, rfl, hGF, hrow, hb, f1, f2, f3, f4⟩⟩
  · exact ⟨rfl, ImgP.bad (HS.out.rd.trans hr) ha (HE.out.trans (hd _))⟩
  have HE := Lib.hid (HE.out.trans (show Im.t10 xs = Im.t11 xs from hd _))
  have hS := HS.out.step hr hb
  have c0 := hS.pb.c4
  have f0 := hS.pb.fr 4
  have hGP := HS.out.pb.lt
  have HS' := Lib.hid (hS.put (p := ⟨GP, 4, none⟩) (u := .slice (some ⟨GF, 0, none⟩) (Im.nf xs) (Im.nf xs)) rfl (hS.pb.s4 _))
  have HD' := Lib.hid ((HD.out.rd hr hgB hM).set (p := ⟨GP, 4, none⟩) (u := .slice (some ⟨GF, 0, none⟩) (Im.nf xs) (Im.nf xs)) (.inl hB1))
  have HW := Lib.hid (World.rowIs.setOther hrow (a := ⟨GP, 4, none⟩) (by simp; omega) (.slice (some ⟨GF, 0, none⟩) (Im.nf xs) (Im.nf xs)))
  have hGM : M ≤ GF := by omega
  have hM' : M ≤ (v3.setCell ⟨GP, 4, none⟩ (.slice (some ⟨GF, 0, none⟩) (Im.nf xs) (Im.nf xs))).heap.size := by have := hr.size; simp; omega
  have hGS : GF < (v3.setCell ⟨GP, 4, none⟩ (.slice (some ⟨GF, 0, none⟩) (Im.nf xs) (Im.nf xs))).heap.size := by simpa using hrow.lt
  have HF4 := Lib.hid f4
  have hgGF : GF ≠ g := by have := HS.out.rd.size; omega
  have hGPF : GP < GF := by omega
  clear hS HS HD hr hb hrow hd f4 hM
  obtain ⟨kf, hkf⟩ : ∃ kf, Im.nf xs = kf + 1 := ⟨Im.nf xs - 1, by omega⟩
  have row0 := HW.out.cell (i := kf) (by omega)
  have hlf : (Im.nf xs : Int) - 1 = kf := by omega
  have hkf1 : (kf : Int) < Im.nf xs := by omega
  have hkf2 : kf < Im.nf xs := by omega
  have HKF := Lib.hid hkf
  have hzf := Im.num_bd hB.out (Im.fAt xs + 2 * kf) 2
  have hz : ∃ z, Im.fa xs (9 + Im.nd xs + 1) kf = z := ⟨_, rfl⟩
  obtain ⟨z, hz⟩ := hz
  rw [show Im.num xs (Im.fAt xs + 2 * kf) 2 = z from hz] at hzf
  rw [hz] at row0
  have HZ := Lib.hid hz
  have p4 := HS'.out.pb.c4
  clear hkf hz
  go_wp2_with fail
  clear c0 f0 row0 p4
  generalize (v3.setCell ⟨GP, 4, none⟩ (.slice (some ⟨GF, 0, none⟩) (Im.nf xs) (Im.nf xs))) = W4 at *
  have HS := HS'
  clear HS'
  have hcAt : Im.cAt xs = 9 + Im.nd xs + 1 + 2 * Im.nf xs := rfl
  have hlo : Im.fa xs (Im.fAt xs) (Im.nf xs - 1) + 1 = z + 1 := by
    have h1 : Im.nf xs - 1 = kf := by have := HKF.out; omega
    rw [h1, show Im.fa xs (Im.fAt xs) kf = z from HZ.out]
  refine (number_any g _ len cap (Im.cAt xs) 2 (z + 1) 256 xs _ HS.out.rb HS.out.by_ f3 (.inr rfl)).mono ?_
  rintro e v ⟨hr, ⟨k1, rfl⟩ | ⟨k1, k2, rfl⟩ | ⟨k1, k2, k3, rfl, hb⟩⟩
  · exact ⟨rfl, ImgP.bad (HS.out.rd.trans hr) (by decide) (HE.out.trans (by unfold Im.t11; rw [Im.nm_short (by rw [HL.out]; exact k1), HL.out]))⟩
  · exact ⟨rfl, ImgP.bad (HS.out.rd.trans hr) (by decide) (HE.out.trans (by unfold Im.t11; rw [Im.nm_bad (by rw [HL.out]; exact k1) (by rw [hlo]; exact k2)]))⟩
  have HE := Lib.hid (HE.out.trans (show Im.t11 xs = Im.t12 xs from Im.nm_ok (by rw [HL.out]; exact k1) (by rw [hlo]; exact k2) k3 _))
  have hnk : Im.num xs (Im.cAt xs) 2 = (Im.nk xs : Int) := by unfold Im.nk; omega
  have hnk1 : 1 ≤ Im.nk xs := by omega
  have hnk2 : Im.nk xs ≤ 256 := by omega
  have hnz : z < Im.nk xs := by omega
  have hS := HS.out.step (j := Im.sAt xs) hr hb
  have lsa : Im.sAt xs ≤ len := k1
  have hsa2 : Im.sAt xs ≤ 1000000000000 := by omega
  rw [hnk]
  obtain ⟨i5, hi5, hz5, hs5, hb5⟩ := ins_info
  have hmk : ∀ U : World, (Instr.makeSlice 24 (.int .i64 (Im.nk xs : Int)) (.int .i64 (Im.nk xs : Int))).run Tryd.prog U = .ok (.slice (some ⟨U.heap.size, 0, none⟩) (Im.nk xs) (Im.nk xs)) (U.alloc (.cells (madeCells #[.int .i64 0, .int .i64 0, .int .i64 0, .int .i64 0, .int .u64 0] (Im.nk xs * 5)) 43)) := fun U => by
    have h := run_make (P := Tryd.prog) U 24 43 i5 _ Tryd.underlying24 hi5 hz5 .i64 .i64 (Im.nk xs : Int) (Im.nk xs : Int) (by omega) (Int.le_refl _) (by rw [hb5]; omega) (by omega)
    rw [hs5, Int.toNat_natCast] at h
    exact h
  have hbx := Below.box v (.cells (madeCells #[.int .i64 0, .int .i64 0, .int .i64 0, .int .i64 0, .int .u64 0] (Im.nk xs * 5)) 43)
  have hS2 := hS.keep hbx
  have r1 := hS.rb.c1
  have c0 := hS2.pb.c5
  have f0 := hS2.pb.fr 5
  have hGPv := hS.pb.lt
  have hGPn : GP ≠ v.heap.size := by omega
  have HGPn := Lib.hid hGPv
  have hby := Below.box (v.setCell ⟨GP, 5, none⟩ (.slice (some ⟨v.heap.size, 0, none⟩) (Im.nk xs) (Im.nk xs))) (.cells (madeCells #[.int .i64 0, .int .i64 0, .int .i64 0, .int .i64 0, .int .u64 0] (Im.nk xs * 5)) 43)
  have HS' := Lib.hid ((hS.put (p := ⟨GP, 5, none⟩) (u := .slice (some ⟨v.heap.size, 0, none⟩) (Im.nk xs) (Im.nk xs)) rfl (hS.pb.s5 _)).keep hby)
  have HD := Lib.hid (((HD'.out.rd hr hgB hM').set (p := ⟨GP, 5, none⟩) (u := .slice (some ⟨v.heap.size, 0, none⟩) (Im.nk xs) (Im.nk xs)) (.inl hB1)).keep hby (by have := hr.size; simp; omega))
  have HW' := Lib.hid (World.rowIs.alloc (World.rowIs.setOther (rowIs_rd HW.out hr hgGF) (a := ⟨GP, 5, none⟩) (by simp; omega) (.slice (some ⟨v.heap.size, 0, none⟩) (Im.nk xs) (Im.nk xs))) (.cells (madeCells #[.int .i64 0, .int .i64 0, .int .i64 0, .int .i64 0, .int .u64 0] (Im.nk xs * 5)) 43))
  have hC := rowIs_code (v.setCell ⟨GP, 5, none⟩ (.slice (some ⟨v.heap.size, 0, none⟩) (Im.nk xs) (Im.nk xs))) (Im.nk xs)
  rw [World.size_setCell] at hC
  have HC := Lib.hid hC
  clear hC hby
  have hGFv : GF < v.heap.size := Nat.lt_of_lt_of_le hGS hr.size
  have hMv : M ≤ v.heap.size := by have := hr.size; omega
  have hgv : g < v.heap.size := by have := hS.rd.size; omega
  clear hS hS2 HS hr hb k1 k2 k3 hbx HW HD' hlo hGS hM'
  go_upto_region 11 with fail
  clear c0 f0 r1 hmk
  generalize ((v.setCell ⟨GP, 5, none⟩ (.slice (some ⟨v.heap.size, 0, none⟩) (Im.nk xs) (Im.nk xs))).alloc (.cells (madeCells #[.int .i64 0, .int .i64 0, .int .i64 0, .int .i64 0, .int .u64 0] (Im.nk xs * 5)) 43)) = W5 at *
  generalize v.heap.size = GC at *
  have HS := HS'
  clear HS'
  have p5 := HS.out.pb.c5
  have HC0 := Lib.hid (World.rowIs.congr (g := fun j => cellI (if j / 5 < 0 then Im.insAt xs (Im.sAt xs) (j / 5) else Im.z5) (j % 5)) HC.out (fun j _ => by rw [if_neg (by omega)]))
  clear HC
  have hGRP := HS.out.h2
  go_wp2_with fail
  go_loopw [52] (fun n wr => ∃ k : Nat, k ≤ Im.nk xs ∧ n = .int .i64 k ∧ St w g w.heap.size GP (some ⟨b, o, none⟩) len cap (Im.sAt xs + 12 * k) xs (.int .i64 (Im.num xs 5 1)) (.int .i64 (Im.num xs 6 1)) (.int .i64 (Im.num xs 7 1)) (.slice A2 (Im.nd xs) cap2) (.slice (some ⟨GF, 0, none⟩) (Im.nf xs) (Im.nf xs)) (.slice (some ⟨GC, 0, none⟩) (Im.nk xs) (Im.nk xs)) wr ∧ Dat wr A2 (Im.nd xs) cap2 ((xs.drop 9).take (Im.nd xs)) B M ∧ wr.rowIs GF 3 (Im.nf xs) (fun j => .int .i64 (Im.fa xs (9 + Im.nd xs + 1) j)) ∧
    wr.rowIs GC 43 (Im.nk xs * 5) (fun j => cellI (if j / 5 < k then Im.insAt xs (Im.sAt xs) (j / 5) else Im.z5) (j % 5)) ∧ (∀ j, j < k → Im.iBad xs (Im.sAt xs) j = false) ∧ Im.sAt xs + 12 * k ≤ len) (fun n _ => Im.nk xs - (intOf n).toNat)
  case atStart => exact ⟨0, by omega, rfl, HS.out, HD.out, HW'.out, HC0.out, fun j hj => absurd hj (by omega), by omega⟩
  case round =>
    obtain ⟨k, hk, rfl, hS, hDt, hRF, hRC, hall, hlen⟩ := hrel
    have HSk := Lib.hid hS
    have HDk := Lib.hid hDt
    have HFk := Lib.hid hRF
    have HCk := Lib.hid hRC
    have HAk := Lib.hid hall
    clear hS hDt hRF hRC hall p5 HS HD HW' HC0
    have hszM : M ≤ wr.heap.size := by have := HCk.out.lt; omega
    have hszG : GC < wr.heap.size := HCk.out.lt
    by_cases hlt : k < Im.nk xs
    · have hki : (k : Int) < Im.nk xs := by omega
      have HI := Lib.hid (instr_any g _ len cap (Im.sAt xs + 12 * k) xs wr.drew (HO.out.below ((HSk.out.rd.below (B := g) (Nat.le_refl _) (by omega)).drew) hog) HSk.out.rb (HSk.out.by_.rd (Rd.drew1 _ _)) hlen (by omega) hl)
      have p5 := HSk.out.pb.c5
      have hIk : ∃ I, Im.ins (xs.drop (Im.sAt xs + 12 * k)) = I := ⟨_, rfl⟩
      obtain ⟨⟨op, a, b', c, m⟩, hIk⟩ := hIk
      rw [hIk] at HI
      have HIK := Lib.hid hIk
      clear hIk
      go_wp2_with fail
      go_region_with
        (first | (go_at_call 49; refine HI.out.mono ?_; rintro e v5 ⟨hr0, hcs⟩; have hr := (Rd.drew1 g wr).trans hr0; clear hr0; rcases hcs with ⟨k1, rfl⟩ | ⟨k1, k2, rfl⟩ | ⟨k1, k2, rfl, hb⟩
                  · refine ⟨rfl, ImgP.bad (HSk.out.rd.trans hr) (by decide) (HE.out.trans ?_)⟩
                    unfold Im.t12
                    rw [Im.dI_at hlt (iBad_short (by rw [HL.out]; exact k1)) HAk.out, if_pos (by rw [HL.out]; exact k1), HL.out]
                  · refine ⟨rfl, ImgP.bad (HSk.out.rd.trans hr) (Im.er_ne k2) (HE.out.trans ?_)⟩
                    unfold Im.t12
                    have hins : Im.insAt xs (Im.sAt xs) k = ⟨op, a, b', c, m⟩ := HIK.out
                    rw [Im.dI_at hlt (by rw [iBad_in (by rw [HL.out]; exact k1), hins]; exact decide_eq_true k2) HAk.out, if_neg (by rw [HL.out]; omega), hins]
                  have p5' : v5.cell? ⟨GP, 5, none⟩ = some (.slice (some ⟨GC, 0, none⟩) (Im.nk xs) (Im.nk xs)) := (HSk.out.step hr hb).pb.c5
                  have hgc : GP ≠ GC := hGPn
                  have hrw := rowIs_rd HCk.out hr (by omega)
                  have y0 := hrw.cell (i := k * 5) (by omega)
                  have y1 := hrw.cell (i := k * 5 + 1) (by omega)
                  have y2 := hrw.cell (i := k * 5 + 2) (by omega)
                  have y3 := hrw.cell (i := k * 5 + 3) (by omega)
                  have y4 := hrw.cell (i := k * 5 + 4) (by omega)
                  have f0 := hrw.frozen (k * 5)
                  have f1 := hrw.frozen (k * 5 + 1)
                  have f2 := hrw.frozen (k * 5 + 2)
                  have f3 := hrw.frozen (k * 5 + 3)
                  have f4 := hrw.frozen (k * 5 + 4)
                  have HR5 := Lib.hid hr
                  have HB5 := Lib.hid hb
                  have HK2 := Lib.hid k2
                  have HRW5 := Lib.hid hrw
                  have HK1 := Lib.hid k1
                  clear hr hb hrw k2 k1))
      all_goals
        clear p5 p5' y0 y1 y2 y3 y4 f0 f1 f2 f3 f4
        have hS5 := HSk.out.step (j := Im.sAt xs + 12 * k + 12) HR5.out HB5.out
        have hS6 := ((((hS5.far (p := ⟨GC, k * 5, none⟩) hGPv (.int .i64 op)).far (p := ⟨GC, k * 5 + 1, none⟩) hGPv (.int .i64 a)).far (p := ⟨GC, k * 5 + 2, none⟩) hGPv (.int .i64 b')).far (p := ⟨GC, k * 5 + 3, none⟩) hGPv (.int .i64 c)).far (p := ⟨GC, k * 5 + 4, none⟩) hGPv (.int .u64 m)
        have hD5 := HDk.out.rd HR5.out hgB hszM
        have hD6 := ((((hD5.set (p := ⟨GC, k * 5, none⟩) (u := .int .i64 op) (.inr hMv)).set (p := ⟨GC, k * 5 + 1, none⟩) (u := .int .i64 a) (.inr hMv)).set (p := ⟨GC, k * 5 + 2, none⟩) (u := .int .i64 b') (.inr hMv)).set (p := ⟨GC, k * 5 + 3, none⟩) (u := .int .i64 c) (.inr hMv)).set (p := ⟨GC, k * 5 + 4, none⟩) (u := .int .u64 m) (.inr hMv)
        have hF5 := rowIs_rd HFk.out HR5.out hgGF
        have hF6 := ((((hF5.setOther (a := ⟨GC, k * 5, none⟩) (by simp; omega) (.int .i64 op)).setOther (a := ⟨GC, k * 5 + 1, none⟩) (by simp; omega) (.int .i64 a)).setOther (a := ⟨GC, k * 5 + 2, none⟩) (by simp; omega) (.int .i64 b')).setOther (a := ⟨GC, k * 5 + 3, none⟩) (by simp; omega) (.int .i64 c)).setOther (a := ⟨GC, k * 5 + 4, none⟩) (by simp; omega) (.int .u64 m)
        have hC6 := row_ins HRW5.out
        have hins : Im.insAt xs (Im.sAt xs) k = ⟨op, a, b', c, m⟩ := HIK.out
        rw [hins] at hC6
        have hI6 : Im.iBad xs (Im.sAt xs) k = false := by
          rw [iBad_in (by rw [HL.out]; exact HK1.out), hins]
          exact decide_eq_false (fun h => h HK2.out)
        have HS6 := Lib.hid hS6
        have HD6 := Lib.hid hD6
        have HF6 := Lib.hid hF6
        have HC6 := Lib.hid hC6
        have HI6 := Lib.hid hI6
        have HK1' := HK1.out
        clear hS5 hS6 hD5 hD6 hF5 hF6 hC6 hins hI6 HI HR5 HB5 HRW5 HSk HDk HFk HCk
        go_wp2
        go_roundw
        case rel =>
          refine ⟨k + 1, by omega, by go_num, HS6.out, HD6.out, HF6.out, HC6.out, fun j hj => ?_, by omega⟩
          rcases Nat.lt_succ_iff_lt_or_eq.1 hj with h | h
          · exact HAk.out j h
          · rw [h]; exact HI6.out
        case measure => simp [intOf]; omega
    · have hkl : k = Im.nk xs := by omega
      subst hkl
      have p1 := HSk.out.rb.c1
      have p0 := HSk.out.rb.c0
      have HE' := Lib.hid (HE.out.trans (show Im.t12 xs = Im.dG xs from Im.dI_ok HAk.out _))
      have hEE : ∃ E, Im.sAt xs + 12 * Im.nk xs = E := ⟨_, rfl⟩
      obtain ⟨E, hEE⟩ := hEE
      rw [hEE] at p1
      have HEE := Lib.hid hEE
      by_cases hmore : Im.sAt xs + 12 * Im.nk xs < len
      · have hmi : (E : Int) < (len : Int) := by omega
        clear hEE hlt
        go_wp2_with fail
        go_quiet (fail)
        go_wp2
        refine ⟨rfl, ImgP.bad (HSk.out.rd.drewN _) (by decide) (HE'.out.trans ?_)⟩
        unfold Im.dG
        rw [HL.out, if_pos hmore, HEE.out]
      · have hmi : ¬ (E : Int) < (len : Int) := by omega
        have x0 := HSk.out.pb.c0
        have x1 := HSk.out.pb.c1
        have x2 := HSk.out.pb.c2
        have x3 := HSk.out.pb.c3
        have x4 := HSk.out.pb.c4
        have x5 := HSk.out.pb.c5
        have hIm : ImAt wr A2 (Im.nd xs) cap2 (some ⟨GF, 0, none⟩) (Im.nf xs) (Im.nf xs) (some ⟨GC, 0, none⟩) (Im.nk xs) (Im.nk xs) (Im.pic xs) :=
          ⟨HDk.out.sl, InSl.of_row HFk.out (by omega), CoSl.of_row HCk.out (by omega) (by omega) (fun i => val_bd _ (isB_of fun x hx' => Im.mem_isB hB.out (List.mem_of_mem_drop hx')))⟩
        have hPl : Im.Places (Im.pic xs).fs (Im.nk xs) := places_of HF4.out f1 (by rw [HL.out]; exact f3) (by
          have h1 : Im.nf xs - 1 = kf := by have := HKF.out; omega
          rw [h1, show Im.fa xs (Im.fAt xs) kf = z from HZ.out]; exact hnz)
        have hfb := fl_bd (Im.pic xs).fs (Im.pic xs).cs
        have hcl : (Im.pic xs).cs.length = Im.nk xs := by unfold Im.pic; simp
        rw [hcl] at hfb
        have hFl : ∀ n, Calls Tryd.prog 22 #[.agg #[.int .i64 (Im.num xs 5 1), .int .i64 (Im.num xs 6 1), .int .i64 (Im.num xs 7 1), .slice A2 (Im.nd xs) cap2, .slice (some ⟨GF, 0, none⟩) (Im.nf xs) (Im.nf xs), .slice (some ⟨GC, 0, none⟩) (Im.nk xs) (Im.nk xs)]] (wr.drewN n) fun e w' => e = .returned (.tuple #[.int .i64 (Im.flI (Im.pic xs).fs (Im.pic xs).cs), .bool (Im.flB (Im.pic xs).fs (Im.pic xs).cs)]) ∧ Below (wr.drewN n).heap.size (wr.drewN n) w' :=
          fun n => flaw_any _ _ _ A2 (Im.nd xs) cap2 _ _ _ _ _ _ (Im.pic xs) (wr.drewN n) (hIm.below (below_drewN (Below.refl _ _) n)) hPl f1
        have HIM := Lib.hid hIm
        have HFL := Lib.hid hFl
        have hdg : ∀ f, Im.flB (Im.pic xs).fs (Im.pic xs).cs = f → Im.dG xs = if f = true then (7, (Im.sAt xs : Int) + 12 * Im.flI (Im.pic xs).fs (Im.pic xs).cs) else (0, 0) := fun f hf => by
          unfold Im.dG
          rw [HL.out, if_neg (by omega), hf]
        have HDG := Lib.hid hdg
        have hff : ∃ f L, Im.flB (Im.pic xs).fs (Im.pic xs).cs = f ∧ Im.flI (Im.pic xs).fs (Im.pic xs).cs = L := ⟨_, _, rfl, rfl⟩
        obtain ⟨ff, L, hff, hLL⟩ := hff
        rw [hff, hLL] at HFL
        rw [hLL] at hfb HDG
        have HFF := Lib.hid hff
        clear hIm hFl hdg hff hLL hPl hcl hEE hlt
        obtain ⟨hL0, hL1⟩ := hfb
        go_wp2_with fail
        go_quiet (fail)
        go_wp2_with fail
        refine (HFL.out _).mono ?_
        rintro e v6 ⟨rfl, hb6⟩
        have hb6' : Below wr.heap.size wr v6 := (below_drewN (Below.refl _ _) _).trans hb6
        have hS6 := HSk.out.keep hb6'
        have HS6 := Lib.hid hS6
        have HIM6 := Lib.hid (HIM.out.below hb6')
        have HD6 := Lib.hid (HDk.out.keep hb6' hszM)
        have HF6 := Lib.hid (HFk.out.of_block (hb6'.block _ HFk.out.lt))
        have HC6 := Lib.hid (HCk.out.of_block (hb6'.block _ HCk.out.lt))
        have y0 := hS6.pb.c0
        have y1 := hS6.pb.c1
        have y2 := hS6.pb.c2
        have y3 := hS6.pb.c3
        have y4 := hS6.pb.c4
        have y5 := hS6.pb.c5
        have w0 := hS6.pr.c0
        have w1 := hS6.pr.c1
        have w2 := hS6.pr.c2
        have w3 := hS6.pr.c3
        have w4 := hS6.pr.c4
        have w5 := hS6.pr.c5
        have u0 := hS6.pr.fr 0
        have u1 := hS6.pr.fr 1
        have u2 := hS6.pr.fr 2
        have u3 := hS6.pr.fr 3
        have u4 := hS6.pr.fr 4
        have u5 := hS6.pr.fr 5
        clear hS6 hb6 hb6' HFL HSk HDk x0 x1 x2 x3 x4 x5 p0 p1
        cases ff with
        | true =>
          go_wp2
          refine ⟨rfl, ImgP.bad HS6.out.rd (by decide) (HE'.out.trans ?_)⟩
          rw [HDG.out true HFF.out, if_pos rfl]
        | false =>
          have m1 := HS6.out.h2
          have m2 : ¬ w.heap.size = GP := by omega
          have m3 : ¬ GP = w.heap.size := by omega
          go_wp2
          refine bodyPost_ret (v := .agg #[.int .i64 (Im.num xs 5 1), .int .i64 (Im.num xs 6 1), .int .i64 (Im.num xs 7 1), .slice A2 (Im.nd xs) cap2, .slice (some ⟨GF, 0, none⟩) (Im.nf xs) (Im.nf xs), .slice (some ⟨GC, 0, none⟩) (Im.nk xs) (Im.nk xs)]) (by simp [results, Tryd.results26, go_sem, *]) rfl ?_
          refine ⟨((((((HS6.out.rd.setNew (Nat.le_refl _) _).setNew (Nat.le_refl _) _).setNew (Nat.le_refl _) _).setNew (Nat.le_refl _) _).setNew (Nat.le_refl _) _).setNew (Nat.le_refl _) _), .inr ⟨HE'.out.trans ?_, _, _, _, _, _, _, _, _, _, rfl, ?_, fun b o s e => ?_, fun b o s e => ?_, fun b o s e => ?_⟩⟩
          · rw [HDG.out false HFF.out]; rfl
          · have hr6 := ((((Rd.set (g := w.heap.size) v6 0 (.int .i64 (Im.num xs 5 1))).trans (Rd.set _ 1 (.int .i64 (Im.num xs 6 1)))).trans (Rd.set _ 2 (.int .i64 (Im.num xs 7 1)))).trans (Rd.set _ 3 (.slice A2 (Im.nd xs) cap2))).trans ((Rd.set _ 4 (.slice (some ⟨GF, 0, none⟩) (Im.nf xs) (Im.nf xs))).trans (Rd.set _ 5 (.slice (some ⟨GC, 0, none⟩) (Im.nk xs) (Im.nk xs))))
            exact ⟨(HD6.out.rd hr6 (by omega) (by have := HC6.out.lt; omega)).sl, InSl.of_row (rowIs_rd HF6.out hr6 (by omega)) (by omega), CoSl.of_row (rowIs_rd HC6.out hr6 (by omega)) (by omega) (by omega) (fun i => val_bd _ (isB_of fun x hx' => Im.mem_isB hB.out (List.mem_of_mem_drop hx')))⟩
          · have := HD6.out.bd b o s e
            omega
          · simp only [Option.some.injEq, Addr.mk.injEq] at e
            omega
          · simp only [Option.some.injEq, Addr.mk.injEq] at e
            omega
end Go.Proofs.YtjadiijjahjjoaaDoor
