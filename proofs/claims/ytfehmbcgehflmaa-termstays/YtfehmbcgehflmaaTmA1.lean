/-
  The arena in memory; contracts of New, Len, Asked, has, and of the counter.
-/
import Derived.Test.YtfehmbcgehflmaaTmC2
import Derived.Maps.OwnSet
import Derived.Maps.AppendAt
import Derived.Laws.LoneSync
import Derived.Laws.OwnMore
import Derived.DeepKeys4
import Derived.OwnWalk
import Derived.Carry
import Derived.Lib.SmallJoins
namespace Go.Proofs.Ytfehmbcgehflmaa
set_option linter.unusedSimpArgs false
set_option linter.unusedVariables false
open Go.RowKit Go.Maps

/-- But for block g, and the blocks m and o, the world w' is as w was. -/
structure Fr (g : Nat) (m o : Option Nat) (w w' : World) : Prop where
  os : w'.os = w.os
  tape : w'.tape = w.tape
  output : w'.output = w.output
  size : w.heap.size ≤ w'.heap.size
  block : ∀ k, k < w.heap.size → k ≠ g → some k ≠ m → some k ≠ o → w'.heap[k]? = w.heap[k]?
theorem Fr.refl (g : Nat) (m o : Option Nat) (w : World) : Fr g m o w w := ⟨rfl, rfl, rfl, Nat.le_refl _, fun _ _ _ _ _ => rfl⟩
/-- Of a row that moves: it stays, or is new. -/
def Moves (n : Nat) (o o' : Option Nat) : Prop := o' = o ∨ ∃ k, n ≤ k ∧ o' = some k
theorem Moves.refl (n : Nat) (o : Option Nat) : Moves n o o := .inl rfl
theorem Moves.trans {n m : Nat} {o p q : Option Nat} (h : Moves n o p) (k : Moves m p q) (hm : n ≤ m) : Moves n o q := by
  rcases k with rfl | ⟨j, hj, rfl⟩
  · exact h
  · exact .inr ⟨j, Nat.le_trans hm hj, rfl⟩
theorem Fr.trans {g : Nat} {m o o' : Option Nat} {a b c : World} (h : Fr g m o a b) (k : Fr g m o' b c) (hm : Moves a.heap.size o o') : Fr g m o a c :=
  ⟨k.os.trans h.os, k.tape.trans h.tape, k.output.trans h.output, Nat.le_trans h.size k.size, fun i hi h1 h2 h3 =>
    (k.block i (Nat.lt_of_lt_of_le hi h.size) h1 h2 (by
      rcases hm with rfl | ⟨j, hj, rfl⟩
      · exact h3
      · intro e; injection e with e; omega)).trans (h.block i hi h1 h2 h3)⟩
theorem Fr.of_below {g : Nat} {m o : Option Nat} {w w' : World} (h : Below w.heap.size w w') : Fr g m o w w' := ⟨h.os, h.tape, h.output, h.size, fun k hk _ _ _ => h.block k hk⟩
theorem Fr.below {g : Nat} {m o : Option Nat} {a b c : World} (h : Fr g m o a b) (k : Below b.heap.size b c) : Fr g m o a c := h.trans (Fr.of_below k) (.inl rfl)
theorem Fr.set {g : Nat} {m o : Option Nat} {a w : World} (h : Fr g m o a w) (i : Nat) (v : Value) : Fr g m o a (w.setCell ⟨g, i, none⟩ v) :=
  ⟨h.os, h.tape, h.output, by simpa using h.size, fun k hk hn h2 h3 => (Below.heap_setCell _ _ _ _ hn).trans (h.block k hk hn h2 h3)⟩
theorem Fr.drew {g : Nat} {m o : Option Nat} {a w : World} (h : Fr g m o a w) : Fr g m o a w.drew := ⟨h.os, h.tape, h.output, h.size, h.block⟩
theorem Fr.drewN {g : Nat} {m o : Option Nat} {a w : World} (h : Fr g m o a w) (n : Nat) : Fr g m o a (w.drewN n) := ⟨h.os, h.tape, h.output, h.size, h.block⟩

/-- A node as a value, and its cells. -/
abbrev ndv (n : Tm.Nd) : Value := .agg #[.int .i64 n.op, .int .i64 n.w, .int .u64 n.n, .int .i64 n.a, .int .i64 n.b, .int .i64 n.c]
def cells6 (n : Tm.Nd) : List Value := [.int .i64 n.op, .int .i64 n.w, .int .u64 n.n, .int .i64 n.a, .int .i64 n.b, .int .i64 n.c]
theorem cells6_at : ∀ (X : List Tm.Nd) (i j : Nat), i < X.length → j < 6 → (X.flatMap cells6)[i * 6 + j]? = (cells6 (X.getD i Tm.z))[j]?
  | [], _, _, h, _ => absurd h (by simp)
  | x :: r, 0, j, _, hj => by
    rw [List.flatMap_cons, List.getElem?_append_left (by show 0 * 6 + j < 6; omega), Nat.zero_mul, Nat.zero_add]; rfl
  | x :: r, i + 1, j, h, hj => by
    rw [List.flatMap_cons, List.getElem?_append_right (by show 6 ≤ (i + 1) * 6 + j; omega), show (i + 1) * 6 + j - (cells6 x).length = i * 6 + j by show (i + 1) * 6 + j - 6 = _; omega]
    exact cells6_at r i j (by simpa using h) hj
theorem cells6_len (X : List Tm.Nd) : (X.flatMap cells6).length = X.length * 6 := by
  induction X with
  | nil => rfl
  | cons x r ih => rw [List.flatMap_cons, List.length_append, ih, List.length_cons, show (cells6 x).length = 6 from rfl]; omega
theorem ndv_inj {n m : Tm.Nd} (h : ndv n = ndv m) : n = m := by
  cases n; cases m
  simp [ndv] at h
  obtain ⟨h1, h2, h3, h4, h5, h6⟩ := h
  subst h1 h2 h3 h4 h5 h6
  rfl
/-- Its numbers are such. -/
structure Tm.Wf (x : Tm.Nd) : Prop where
  op : (Lit.int .i64 x.op).wf = true
  w : (Lit.int .i64 x.w).wf = true
  n : (Lit.int .u64 x.n).wf = true
  a : (Lit.int .i64 x.a).wf = true
  b : (Lit.int .i64 x.b).wf = true
  c : (Lit.int .i64 x.c).wf = true
theorem Tm.Wf.u {n : Tm.Nd} (h : Tm.Wf n) : Tm.U64 n.n := by
  have h3 : 0 ≤ n.n ∧ n.n ≤ 18446744073709551615 := by simpa [Lit.wf, IntKind.min, IntKind.max, IntKind.signed, IntKind.bits] using h.n
  exact ⟨h3.1, by omega⟩
theorem Tm.wf_z : Tm.Wf Tm.z := ⟨by decide, by decide, by decide, by decide, by decide, by decide⟩

theorem laidOut : laidOutB Try.prog = true := by kernel_rfl
theorem key_law : Keyed Try.prog 38 := Keyed.of_law (deep_law_laid laidOut (m := 3) (by omega) (of_decide_eq_true (by kernel_rfl)) (by kernel_rfl) (by kernel_rfl))
theorem zero3 (w : World) : (zeroValue 3).run Try.prog w = .ok (.int .i64 0) w := by kernel_rfl
theorem key_some {n : Tm.Nd} (h : Tm.Wf n) : ∃ l, keyOf Try.prog 38 (ndv n) = some l := by
  have hs : Try.prog.types.size + 1 = 96 + 1 + 1 + 1 := by kernel_rfl
  have hk : Try.prog.keyType 38 = true := by kernel_rfl
  have hf : (ndv n).formed Try.prog 38 = true := by
    have c6 : Try.prog.cellsOf 38 = 6 := by kernel_rfl
    simp [Value.formed, Try.underlying38, c6]
  have c38 : Try.prog.cellsOf 38 = 6 := by kernel_rfl
  have c36 : Try.prog.cellsOf 36 = 3 := by kernel_rfl
  have c3 : Try.prog.cellsOf 3 = 1 := by kernel_rfl
  have c35 : Try.prog.cellsOf 35 = 1 := by kernel_rfl
  unfold keyOf
  rw [Try.underlying38]
  simp only [hk, hf, Bool.and_self, if_true, hs]
  have this : ∀ d, ∃ ls, Try.prog.keyLits (d + 1 + 1 + 1) 38 (ndv n).cells.toList = some ls := fun d => by
    simp [Program.keyLits, Try.underlying38, Try.underlying36, Try.underlying3, Try.underlying35, Value.cells, c38, c36, c3, c35, h.op, h.w, h.n, h.a, h.b, h.c, List.range, List.range.loop]
  obtain ⟨ls, hls⟩ := this 96
  rw [hls]
  exact ⟨_, rfl⟩

/-- A block with a row of cells. -/
abbrev Blk (w : World) (g : Nat) (t : TypeId) (cs : Array Value) : Prop := w.heap[g]? = some (.cells cs t (0, 0))
theorem Blk.lt {w : World} {g : Nat} {t : TypeId} {cs : Array Value} (h : Blk w g t cs) : g < w.heap.size := (Array.getElem?_eq_some_iff.1 h).1
theorem Blk.c {w : World} {g : Nat} {t : TypeId} {cs : Array Value} (h : Blk w g t cs) (i : Nat) : w.cell? ⟨g, i, none⟩ = cs[i]? := by simp [World.cell?, h]
theorem Blk.fr {w : World} {g : Nat} {t : TypeId} {cs : Array Value} (h : Blk w g t cs) (i : Nat) : w.frozen? ⟨g, i, none⟩ = false := Joins.unfrozen_of_block h i
theorem Blk.set {w : World} {g i : Nat} {t : TypeId} {cs : Array Value} (h : Blk w g t cs) (v : Value) : Blk (w.setCell ⟨g, i, none⟩ v) g t (cs.setIfInBounds i v) := Joins.block_setCell h _
theorem Blk.new (w : World) (cs : Array Value) (t : TypeId) : Blk (w.alloc (.cells cs t)) w.heap.size t cs := heap_alloc_new w _

theorem add_at (b o i : Nat) : (⟨b, o, none⟩ : Addr).add i = ⟨b, o + i, none⟩ := by
  unfold Addr.add
  split
  · rename_i h; subst h; rfl
  · rfl
/-- Where a slice lies. -/
def oblk (A : Option Addr) : Option Nat := A.map (·.block)
/-- What the map has. -/
def MapOf (w : World) (bm : Nat) (X : List Tm.Nd) : Prop :=
  ∃ D : DataW Unit, w.ownsMap Try.prog 38 (plainElem Try.prog 3) bm X.length D ∧ IsMap D ∧
    ∀ nd l, keyOf Try.prog 38 (ndv nd) = some l → (nd ∈ X → Maps.has D l = true ∧ D.atKey l (.lit (.int .i64 0)) = .lit (.int .i64 (X.idxOf nd))) ∧ (nd ∉ X → Maps.has D l = false)
/-- An arena. -/
structure Ar (w : World) (g bm : Nat) (A : Option Addr) (cap : Nat) (X : List Tm.Nd) (q : Nat) : Prop where
  blk : Blk w g 61 #[.slice A X.length cap, .map (some bm), .int .i64 q]
  row : w.ownsRow 0 38 6 (.slice A X.length cap) X.length (X.flatMap cells6)
  map : MapOf w bm X
  wf : ∀ x ∈ X, Tm.Wf x
  nodup : X.Nodup
  ok : Tm.Ok X X.length
theorem Ar.mlt {w : World} {g bm : Nat} {A : Option Addr} {cap : Nat} {X : List Tm.Nd} {q : Nat} (h : Ar w g bm A cap X q) : bm < w.heap.size := by
  obtain ⟨D, hD, _⟩ := h.map
  exact hD.lt
theorem own_is {A : Option Addr} {n cap : Nat} : (Value.slice A n cap).ownBlock = oblk A := by
  cases A <;> rfl
theorem Ar.ne {w : World} {g bm : Nat} {A : Option Addr} {cap : Nat} {X : List Tm.Nd} {q : Nat} (h : Ar w g bm A cap X q) : g ≠ bm ∧ (∀ k, oblk A = some k → k ≠ g ∧ k ≠ bm ∧ k < w.heap.size) := by
  obtain ⟨D, hD, _⟩ := h.map
  obtain ⟨es, clock, hb, _⟩ := hD
  have hg := h.blk
  refine ⟨fun e => ?_, fun k hk => ?_⟩
  · subst e; rw [hg] at hb; cases hb
  · rcases h.row.2 with ⟨e, _⟩ | ⟨g', cap', cur, e, _, hc, _⟩
    · injection e with e1 _ _
      subst e1
      simp [oblk] at hk
    · injection e with e1 _ _
      subst e1
      simp [oblk] at hk
      subst hk
      refine ⟨fun e => ?_, fun e => ?_, (Array.getElem?_eq_some_iff.1 hc).1⟩
      · subst e; rw [hg] at hc; simp at hc
      · subst e; rw [hb] at hc; cases hc
theorem Ar.len {w : World} {g bm : Nat} {A : Option Addr} {cap : Nat} {X : List Tm.Nd} {q : Nat} (h : Ar w g bm A cap X q) : X.length ≤ cap ∧ cap ≤ maxLen := by
  rcases h.row.2 with ⟨e, h0⟩ | ⟨g', cap', cur, e, _, hc, h1, h2, _⟩
  · injection e with _ _ e3
    subst e3
    exact ⟨by omega, Nat.zero_le _⟩
  · injection e with _ _ e3
    subst e3
    exact ⟨h1, h2⟩
/-- The arena stays while other blocks change. -/
theorem Ar.keep {w w' : World} {g bm : Nat} {A : Option Addr} {cap : Nat} {X : List Tm.Nd} {q : Nat} (h : Ar w g bm A cap X q) (hs : w.heap.size ≤ w'.heap.size)
    (hk : ∀ k, k = g ∨ k = bm ∨ oblk A = some k → w'.heap[k]? = w.heap[k]?) : Ar w' g bm A cap X q := by
  refine ⟨(hk g (.inl rfl)).trans h.blk, ?_, ?_, h.wf, h.nodup, h.ok⟩
  · rcases h.row with ⟨hl, ⟨e, h0⟩ | ⟨g', cap', cur, e, hb, hc, h1, h2, h3, h4⟩⟩
    · exact ⟨hl, .inl ⟨e, h0⟩⟩
    · refine ⟨hl, .inr ⟨g', cap', cur, e, hb, (hk g' (.inr (.inr ?_))).trans hc, h1, h2, h3, h4⟩⟩
      injection e with e1 _ _
      subst e1
      rfl
  · obtain ⟨D, ⟨es, clock, hb, hF, hz, hD⟩, hi, hm⟩ := h.map
    exact ⟨D, ⟨es, clock, (hk bm (.inr (.inl rfl))).trans hb, hF, hz, hD⟩, hi, hm⟩
theorem Ar.below {w w' : World} {g bm : Nat} {A : Option Addr} {cap : Nat} {X : List Tm.Nd} {q : Nat} (h : Ar w g bm A cap X q) (hb : Below w.heap.size w w') : Ar w' g bm A cap X q :=
  h.keep hb.size fun k hk => hb.block k (by
    rcases hk with rfl | rfl | hk
    · exact h.blk.lt
    · exact h.mlt
    · exact (h.ne.2 k hk).2.2)
/-- Its nodes lie there. -/
theorem Ar.nd {w : World} {g bm : Nat} {A : Option Addr} {cap : Nat} {X : List Tm.Nd} {q : Nat} (h : Ar w g bm A cap X q) : NdR w A X.length cap X := by
  refine ⟨h.len.1, h.len.2, fun e => ?_, fun h0 => ?_⟩
  · rcases h.row.2 with ⟨_, h1⟩ | ⟨g', cap', cur, e', _⟩
    · exact h1
    · subst e
      cases e'
  · rcases h.row.2 with ⟨_, h1⟩ | ⟨g', cap', cur, e', _, hc, _⟩
    · omega
    · injection e' with e1 _ _
      subst e1
      have hcell := h.row.cells (g := g') rfl
      have hcs : ∀ j u, (X.flatMap cells6)[j]? = some u → w.cell? ⟨g', j, none⟩ = some u := fun j u hu => by
        have := hcell j u hu
        rw [add_at, Nat.zero_add] at this
        exact this
      refine ⟨g', 0, rfl, (Array.getElem?_eq_some_iff.1 hc).1, fun i hi => ?_⟩
      have k0 := cells6_at X i 0 hi (by omega)
      have k1 := cells6_at X i 1 hi (by omega)
      have k2 := cells6_at X i 2 hi (by omega)
      have k3 := cells6_at X i 3 hi (by omega)
      have k4 := cells6_at X i 4 hi (by omega)
      have k5 := cells6_at X i 5 hi (by omega)
      rw [Nat.zero_add]
      exact ⟨hcs _ _ k0, hcs _ _ k1, hcs _ _ k2, hcs _ _ k3, hcs _ _ k4, hcs _ _ k5⟩
end Go.Proofs.Ytfehmbcgehflmaa
