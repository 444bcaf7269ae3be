/-
  The runner as a whole: its block, its memory, its open places; what every action does.
-/
import Derived.Test.YthkhadbeomkihaaDoorMc8
namespace Go.Proofs.YthkhadbeomkihaaDoor
set_option maxRecDepth 100000
open Go.RowKit

/-- An image and an input, by their values. -/
structure Hd where
  mem : Int
  stk : Int
  inp : Int
  Ad : Option Addr
  ld : Nat
  cd : Nat
  Af : Option Addr
  lf : Nat
  cf : Nat
  Ac : Option Addr
  lc : Nat
  cc : Nat
  Ai : Option Addr
  li : Nat
  ci : Nat
  p : Im.Pic
  xs : List Int
structure HdAt (w : World) (H : Hd) : Prop where
  img : ImAt w H.Ad H.ld H.cd H.Af H.lf H.cf H.Ac H.lc H.cc H.p
  e0 : H.p.mem = H.mem
  e1 : H.p.stk = H.stk
  e2 : H.p.inp = H.inp
  inp : BySl w H.Ai H.li H.ci H.xs
theorem HdAt.below {w w' : World} {H : Hd} (h : HdAt w H) (hb : Below w.heap.size w w') : HdAt w' H := ⟨h.img.below hb, h.e0, h.e1, h.e2, h.inp.below hb⟩

def fnL : List Nat := [68, 69, 70, 71, 71, 71, 72, 72, 71, 71, 71, 71, 71, 71, 71, 71, 71, 73, 74, 75, 76, 77, 78, 79, 80, 81]
def fnOf (k : Nat) : Nat := fnL.getD k 0
def actV (k : Nat) : Value := .func (.func (fnOf k)) #[] #[]

/-- The runner's cells. -/
structure Rc (H : Hd) (M O : Value) (s : Mc.St) (nx : Int) (cs : Array Value) : Prop where
  sz : cs.size = 45
  c0 : cs[0]? = some (.int .i64 H.mem)
  c1 : cs[1]? = some (.int .i64 H.stk)
  c2 : cs[2]? = some (.int .i64 H.inp)
  c3 : cs[3]? = some (.slice H.Ad H.ld H.cd)
  c4 : cs[4]? = some (.slice H.Af H.lf H.cf)
  c5 : cs[5]? = some (.slice H.Ac H.lc H.cc)
  c6 : cs[6]? = some (.slice H.Ai H.li H.ci)
  c7 : cs[7]? = some (.int .i64 s.pl)
  rg : ∀ k, k < 8 → cs[8 + k]? = some (.int .u64 (s.rg.getD k 0))
  c16 : cs[16]? = some M
  c17 : cs[17]? = some O
  c18 : cs[18]? = some (.int .i64 nx)
  ac : ∀ k, k < 26 → cs[19 + k]? = some (actV k)
theorem Rc.reg {H : Hd} {M O : Value} {s : Mc.St} {nx : Int} {cs : Array Value} (h : Rc H M O s nx cs) (hr : s.rg.length = 8) {a : Nat} (ha : a < 8) (x : Int) : Rc H M O { s with rg := s.rg.set a x } nx (cs.setIfInBounds (8 + a) (.int .u64 x)) := by
  have ne : ∀ i, i ≠ 8 + a → (cs.setIfInBounds (8 + a) (.int .u64 x))[i]? = cs[i]? := fun i hi => Array.getElem?_setIfInBounds_ne (Ne.symm hi)
  refine ⟨by rw [Array.size_setIfInBounds]; exact h.sz, (ne _ (by omega)).trans h.c0, (ne _ (by omega)).trans h.c1, (ne _ (by omega)).trans h.c2, (ne _ (by omega)).trans h.c3, (ne _ (by omega)).trans h.c4, (ne _ (by omega)).trans h.c5, (ne _ (by omega)).trans h.c6, (ne _ (by omega)).trans h.c7, fun k hk => ?_, (ne _ (by omega)).trans h.c16, (ne _ (by omega)).trans h.c17, (ne _ (by omega)).trans h.c18, fun k hk => (ne _ (by omega)).trans (h.ac k hk)⟩
  show _ = some (Value.int .u64 ((s.rg.set a x).getD k 0))
  by_cases hka : k = a
  · subst hka
    rw [Array.getElem?_setIfInBounds_self_of_lt (by rw [h.sz]; omega), List.getD_eq_getElem?_getD, List.getElem?_set_self (by omega)]
    rfl
  · rw [ne _ (by omega), h.rg k hk, List.getD_eq_getElem?_getD, List.getD_eq_getElem?_getD, List.getElem?_set_ne (Ne.symm hka)]
theorem Rc.nx {H : Hd} {M O : Value} {s : Mc.St} {nx : Int} {cs : Array Value} (h : Rc H M O s nx cs) (x : Int) : Rc H M O s x (cs.setIfInBounds 18 (.int .i64 x)) := by
  have ne : ∀ i, i ≠ 18 → (cs.setIfInBounds 18 (.int .i64 x))[i]? = cs[i]? := fun i hi => Array.getElem?_setIfInBounds_ne (Ne.symm hi)
  exact ⟨by rw [Array.size_setIfInBounds]; exact h.sz, (ne _ (by omega)).trans h.c0, (ne _ (by omega)).trans h.c1, (ne _ (by omega)).trans h.c2, (ne _ (by omega)).trans h.c3, (ne _ (by omega)).trans h.c4, (ne _ (by omega)).trans h.c5, (ne _ (by omega)).trans h.c6, (ne _ (by omega)).trans h.c7, fun k hk => (ne _ (by omega)).trans (h.rg k hk), (ne _ (by omega)).trans h.c16, (ne _ (by omega)).trans h.c17, by rw [Array.getElem?_setIfInBounds_self_of_lt (by rw [h.sz]; omega)], fun k hk => (ne _ (by omega)).trans (h.ac k hk)⟩
theorem Rc.pl {H : Hd} {M O : Value} {s : Mc.St} {nx : Int} {cs : Array Value} (h : Rc H M O s nx cs) (x : Int) : Rc H M O { s with pl := x } nx (cs.setIfInBounds 7 (.int .i64 x)) := by
  have ne : ∀ i, i ≠ 7 → (cs.setIfInBounds 7 (.int .i64 x))[i]? = cs[i]? := fun i hi => Array.getElem?_setIfInBounds_ne (Ne.symm hi)
  exact ⟨by rw [Array.size_setIfInBounds]; exact h.sz, (ne _ (by omega)).trans h.c0, (ne _ (by omega)).trans h.c1, (ne _ (by omega)).trans h.c2, (ne _ (by omega)).trans h.c3, (ne _ (by omega)).trans h.c4, (ne _ (by omega)).trans h.c5, (ne _ (by omega)).trans h.c6, by rw [Array.getElem?_setIfInBounds_self_of_lt (by rw [h.sz]; omega)], fun k hk => (ne _ (by omega)).trans (h.rg k hk), (ne _ (by omega)).trans h.c16, (ne _ (by omega)).trans h.c17, (ne _ (by omega)).trans h.c18, fun k hk => (ne _ (by omega)).trans (h.ac k hk)⟩
theorem Rc.op {H : Hd} {M O : Value} {s : Mc.St} {nx : Int} {cs : Array Value} (h : Rc H M O s nx cs) (O' : Value) (l : List Int) : Rc H M O' { s with op := l } nx (cs.setIfInBounds 17 O') := by
  have ne : ∀ i, i ≠ 17 → (cs.setIfInBounds 17 O')[i]? = cs[i]? := fun i hi => Array.getElem?_setIfInBounds_ne (Ne.symm hi)
  exact ⟨by rw [Array.size_setIfInBounds]; exact h.sz, (ne _ (by omega)).trans h.c0, (ne _ (by omega)).trans h.c1, (ne _ (by omega)).trans h.c2, (ne _ (by omega)).trans h.c3, (ne _ (by omega)).trans h.c4, (ne _ (by omega)).trans h.c5, (ne _ (by omega)).trans h.c6, (ne _ (by omega)).trans h.c7, fun k hk => (ne _ (by omega)).trans (h.rg k hk), (ne _ (by omega)).trans h.c16, by rw [Array.getElem?_setIfInBounds_self_of_lt (by rw [h.sz]; omega)], (ne _ (by omega)).trans h.c18, fun k hk => (ne _ (by omega)).trans (h.ac k hk)⟩
theorem Rc.mm {H : Hd} {M O : Value} {s : Mc.St} {nx : Int} {cs : Array Value} (h : Rc H M O s nx cs) (l : List Int) : Rc H M O { s with mm := l } nx cs :=
  ⟨h.sz, h.c0, h.c1, h.c2, h.c3, h.c4, h.c5, h.c6, h.c7, h.rg, h.c16, h.c17, h.c18, h.ac⟩

/-- The runner in memory, made behind the world w0. -/
structure Rn (H : Hd) (w0 : World) (g : Nat) (M O : Value) (s : Mc.St) (nx : Int) (w : World) : Prop where
  bel : Below w0.heap.size w0 w
  row : ∃ cs, RnB w g cs ∧ Rc H M O s nx cs
  mo : w.ownsRow w0.heap.size 5 1 M s.mm.length (s.mm.map (Value.int .u8))
  oo : w.ownsRow w0.heap.size 3 1 O s.op.length (s.op.map (Value.int .i64))
  gb : w0.heap.size ≤ g
  mg : M.ownBlock ≠ some g
  og : O.ownBlock ≠ some g
  ne : ∀ k, M.ownBlock = some k → O.ownBlock ≠ some k
theorem ownsRow.blk {w w' : World} {base : Nat} {e : TypeId} {size : Nat} {v : Value} {n : Nat} {xs : List Value} (h : w.ownsRow base e size v n xs) (hb : ∀ k, v.ownBlock = some k → w'.heap[k]? = w.heap[k]?) : w'.ownsRow base e size v n xs := by
  refine ⟨h.1, h.2.imp_right ?_⟩
  rintro ⟨g, cap, cur, rfl, h1, h2, h3⟩
  exact ⟨g, cap, cur, rfl, h1, (hb g rfl).trans h2, h3⟩
theorem Rn.below {H : Hd} {w0 : World} {g : Nat} {M O : Value} {s : Mc.St} {nx : Int} {w w' : World} (h : Rn H w0 g M O s nx w) (hb : Below w.heap.size w w') : Rn H w0 g M O s nx w' := by
  obtain ⟨cs, h1, h2⟩ := h.row
  exact ⟨h.bel.trans (hb.mono h.bel.size), ⟨cs, h1.below hb, h2⟩, own_below h.mo hb, own_below h.oo hb, h.gb, h.mg, h.og, h.ne⟩
theorem Below.of_fr {w0 w w' : World} {g : Nat} {m o : Option Nat} (h : Below w0.heap.size w0 w) (hf : Fr g m o w w') (hg : w0.heap.size ≤ g) (hm : ∀ k, m = some k → w0.heap.size ≤ k) (ho : ∀ k, o = some k → w0.heap.size ≤ k) : Below w0.heap.size w0 w' :=
  h.trans ⟨hf.os, hf.tape, hf.output, hf.size, fun k hk => hf.block k (Nat.lt_of_lt_of_le hk h.size) (by omega) (fun e => by have := hm k e.symm; omega) (fun e => by have := ho k e.symm; omega)⟩
/-- Only the runner's block has changed. -/
theorem Rn.cells {H : Hd} {w0 : World} {g : Nat} {M O : Value} {s s' : Mc.St} {nx nx' : Int} {w w' : World} {cs' : Array Value} (h : Rn H w0 g M O s nx w) (hr : RnB w' g cs') (hc : Rc H M O s' nx' cs') (hf : Fr g none none w w') (hm : s'.mm = s.mm) (ho : s'.op = s.op) : Rn H w0 g M O s' nx' w' := by
  have key : ∀ {v : Value} {e : TypeId} {n : Nat} {xs : List Value}, w.ownsRow w0.heap.size e 1 v n xs → v.ownBlock ≠ some g → w'.ownsRow w0.heap.size e 1 v n xs := fun hv hg => ownsRow.blk hv fun k hk => hf.block k (hv.lt k hk).2 (fun e => hg (by rw [hk, e])) (by simp) (by simp)
  exact ⟨Below.of_fr h.bel hf h.gb (by simp) (by simp), ⟨cs', hr, hc⟩, by rw [hm]; exact key h.mo h.mg, by rw [ho]; exact key h.oo h.og, h.gb, h.mg, h.og, h.ne⟩

/-- What an action leaves. -/
def AP (H : Hd) (w0 : World) (g : Nat) (M O : Value) (r : Mc.St × Int × Int) (w : World) (e : Ending) (w' : World) : Prop :=
  ∃ O', e = .returned (.int .i64 r.2.2) ∧ Rn H w0 g M O' r.1 r.2.1 w' ∧ Fr g M.ownBlock O.ownBlock w w' ∧ (O'.ownBlock = O.ownBlock ∨ ∃ k, O'.ownBlock = some k ∧ w.heap.size ≤ k)
theorem AP.still {H : Hd} {w0 : World} {g : Nat} {M O : Value} {s : Mc.St} {nx x : Int} {w w' : World} {e : Ending} (h : Rn H w0 g M O s nx w) (he : e = .returned (.int .i64 x)) (hb : Below w.heap.size w w') : AP H w0 g M O (s, nx, x) w e w' :=
  ⟨O, he, h.below hb, Fr.of_below hb, .inl rfl⟩
theorem AP.cells {H : Hd} {w0 : World} {g : Nat} {M O : Value} {s s' : Mc.St} {nx nx' x : Int} {w w' : World} {e : Ending} {cs' : Array Value} (h : Rn H w0 g M O s nx w) (he : e = .returned (.int .i64 x)) (hr : RnB w' g cs') (hc : Rc H M O s' nx' cs') (hf : Fr g none none w w') (hm : s'.mm = s.mm) (ho : s'.op = s.op) : AP H w0 g M O (s', nx', x) w e w' :=
  ⟨O, he, h.cells hr hc hf hm ho, hf.wide, .inl rfl⟩
end Go.Proofs.YthkhadbeomkihaaDoor
