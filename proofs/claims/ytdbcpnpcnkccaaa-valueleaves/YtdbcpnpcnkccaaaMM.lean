/-
  Put, in plain words: each node is made, its kids being where they were made; that goes always.
  The walk of the law on a term's parts.
  The contract of Put.
-/
import Derived.Test.YtdbcpnpcnkccaaaML
import Derived.Test.YtdbcpnpcnkccaaaMK
import Derived.Laws.MakeOwn
set_option linter.unusedSimpArgs false
set_option linter.unusedVariables false
namespace Go.Proofs.Ytdbcpnpcnkccaaa
set_option maxRecDepth 100000
open Go.RowKit Go.Maps

/-- Put, so far: the nodes, and where each went. -/
def Tm.pst (X L : List Tm.Nd) : Nat → List Tm.Nd × (Nat → Int)
  | 0 => (X, fun _ => 0)
  | k + 1 => ((Tm.mk (Tm.pst X L k).1 (Tm.mvd (L.getD k Tm.z) (Tm.pst X L k).2)).1, fun j => if j = k then (Tm.mk (Tm.pst X L k).1 (Tm.mvd (L.getD k Tm.z) (Tm.pst X L k).2)).2.1 else (Tm.pst X L k).2 j)
/-- The places are such. -/
def Tm.PI (L Y : List Tm.Nd) (at' : Nat → Int) (k : Nat) : Prop := ∀ j, j < k → ∃ i : Nat, at' j = (i : Int) ∧ i < Y.length ∧ (Y.getD i Tm.z).w = (L.getD j Tm.z).w
theorem Tm.mk_in {X : List Tm.Nd} {nd : Tm.Nd} (h : nd ∈ X) : Tm.mk X nd = (X, (X.idxOf nd : Int), 0) := if_pos h
theorem Tm.mk_new {X : List Tm.Nd} {nd : Tm.Nd} (h : nd ∉ X) (hf : Tm.flt nd X.length X = 0) : Tm.mk X nd = (X ++ [nd], (X.length : Int), 0) := by
  rw [Tm.mk, if_neg h, if_neg (by rw [hf]; simp)]
theorem Tm.getD_idxOf : ∀ {X : List Tm.Nd} {nd : Tm.Nd}, nd ∈ X → X.idxOf nd < X.length ∧ X.getD (X.idxOf nd) Tm.z = nd
  | [], _, h => absurd h (by simp)
  | x :: r, nd, h => by
    by_cases e : x = nd
    · subst e
      simp
    · have h' : nd ∈ r := by
        rcases List.mem_cons.1 h with h | h
        · exact absurd h.symm e
        · exact h
      obtain ⟨h1, h2⟩ := Tm.getD_idxOf h'
      have e' : (x == nd) = false := by simpa using e
      rw [List.idxOf_cons, e']
      refine ⟨?_, h2⟩
      show r.idxOf nd + 1 < r.length + 1
      omega
/-- What is made is there, at its place; nothing goes, and places stay. -/
structure Tm.Made (X Y : List Tm.Nd) (nd : Tm.Nd) (p : Int) : Prop where
  ex : ∃ i : Nat, p = (i : Int) ∧ i < Y.length ∧ Y.getD i Tm.z = nd
  pre : X <+: Y
theorem Tm.mk_made {X : List Tm.Nd} {nd : Tm.Nd} (hf : Tm.flt nd X.length X = 0) : (Tm.mk X nd).2.2 = 0 ∧ Tm.Made X (Tm.mk X nd).1 nd (Tm.mk X nd).2.1 := by
  by_cases h : nd ∈ X
  · rw [Tm.mk_in h]
    obtain ⟨h1, h2⟩ := Tm.getD_idxOf h
    exact ⟨rfl, ⟨_, rfl, h1, h2⟩, List.prefix_refl X⟩
  · rw [Tm.mk_new h hf]
    refine ⟨rfl, ⟨X.length, rfl, by simp, ?_⟩, List.prefix_append X [nd]⟩
    simp [List.getD_eq_getElem?_getD]
theorem Tm.pre_getD {X Y : List Tm.Nd} (h : X <+: Y) {i : Nat} (hi : i < X.length) : Y.getD i Tm.z = X.getD i Tm.z := by
  obtain ⟨Z, rfl⟩ := h
  rw [List.getD_eq_getElem?_getD, List.getD_eq_getElem?_getD, List.getElem?_append_left hi]
theorem Tm.mvd_kok {nd : Tm.Nd} {at' : Nat → Int} {k n : Nat} (hk : Tm.kok nd k = true) (ha : ∀ j, j < k → 0 ≤ at' j ∧ at' j < n) : Tm.kok (Tm.mvd nd at') n = true := by
  obtain ⟨k0, k1, k2⟩ := Tm.kok_in hk
  unfold Tm.kok at hk ⊢
  simp only [Bool.and_eq_true] at hk ⊢
  show (if 1 ≤ Tm.kidn nd.op then Tm.inn (Tm.mvd nd at').a n else (Tm.mvd nd at').a == 0) = true ∧ (if 2 ≤ Tm.kidn nd.op then Tm.inn (Tm.mvd nd at').b n else (Tm.mvd nd at').b == 0) = true ∧ (if 3 ≤ Tm.kidn nd.op then Tm.inn (Tm.mvd nd at').c n else (Tm.mvd nd at').c == 0) = true
  refine ⟨?_, ?_, ?_⟩
  · split
    · rename_i c
      have := k0 c
      simp only [Tm.mvd, c, if_true]
      exact Tm.inn_iff.2 (ha _ (by omega))
    · rename_i c
      rw [if_neg c] at hk
      simp only [Tm.mvd, c, if_false]
      exact hk.1
  · split
    · rename_i c
      have := k1 c
      simp only [Tm.mvd, c, if_true]
      exact Tm.inn_iff.2 (ha _ (by omega))
    · rename_i c
      rw [if_neg c] at hk
      simp only [Tm.mvd, c, if_false]
      exact hk.2.1
  · split
    · rename_i c
      have := k2 c
      simp only [Tm.mvd, c, if_true]
      exact Tm.inn_iff.2 (ha _ (by omega))
    · rename_i c
      rw [if_neg c] at hk
      simp only [Tm.mvd, c, if_false]
      exact hk.2.2
/-- A node whose kids have moved, with their widths, is right where it was right. -/
theorem Tm.mvd_flt {L Y : List Tm.Nd} {at' : Nat → Int} {k : Nat} {nd : Tm.Nd} (h : Tm.flt nd k L = 0) (hp : Tm.PI L Y at' k) : Tm.flt (Tm.mvd nd at') Y.length Y = 0 := by
  obtain ⟨o0, o1, hk, hw, hn⟩ := Tm.flt_zero h
  obtain ⟨k0, k1, k2⟩ := Tm.kok_in hk
  have hwd : ∀ a : Int, 0 ≤ a → a < k → Tm.wd Y (at' a.toNat) = Tm.wd L a := fun a h0 h1 => by
    obtain ⟨i, e, _, hi⟩ := hp a.toNat (by omega)
    unfold Tm.wd
    rw [e, Int.toNat_natCast]
    exact hi
  have hkk : Tm.kok (Tm.mvd nd at') Y.length = true := Tm.mvd_kok hk fun j hj => by
    obtain ⟨i, e, hi, _⟩ := hp j hj
    omega
  have e0 : Tm.w0 (Tm.mvd nd at') Y = Tm.w0 nd L := by
    show (if 1 ≤ Tm.kidn nd.op then Tm.wd Y (Tm.mvd nd at').a else 0) = (if 1 ≤ Tm.kidn nd.op then Tm.wd L nd.a else 0)
    split
    · rename_i c
      simp only [Tm.mvd, c, if_true]
      exact hwd _ (k0 c).1 (k0 c).2
    · rfl
  have e1 : Tm.w1 (Tm.mvd nd at') Y = Tm.w1 nd L := by
    show (if 2 ≤ Tm.kidn nd.op then Tm.wd Y (Tm.mvd nd at').b else 0) = (if 2 ≤ Tm.kidn nd.op then Tm.wd L nd.b else 0)
    split
    · rename_i c
      simp only [Tm.mvd, c, if_true]
      exact hwd _ (k1 c).1 (k1 c).2
    · rfl
  have e2 : Tm.w2 (Tm.mvd nd at') Y = Tm.w2 nd L := by
    show (if 3 ≤ Tm.kidn nd.op then Tm.wd Y (Tm.mvd nd at').c else 0) = (if 3 ≤ Tm.kidn nd.op then Tm.wd L nd.c else 0)
    split
    · rename_i c
      simp only [Tm.mvd, c, if_true]
      exact hwd _ (k2 c).1 (k2 c).2
    · rfl
  unfold Tm.flt
  rw [if_neg (by show ¬ (nd.op < 0 ∨ 24 < nd.op); omega), if_neg (by rw [hkk]; simp), e0, e1, e2, if_neg (by show ¬ Tm.wok nd.op nd.w _ _ _ = false; rw [hw]; simp), if_neg (by show ¬ Tm.nok nd.op nd.w nd.n = false; rw [hn]; simp)]
/-- Put goes always. -/
theorem Tm.pst_all {X L : List Tm.Nd} (hL : Tm.Ok L L.length) : ∀ k, k ≤ L.length → Tm.PI L (Tm.pst X L k).1 (Tm.pst X L k).2 k ∧ X <+: (Tm.pst X L k).1 ∧ (Tm.pst X L k).1.length ≤ X.length + k
  | 0, _ => ⟨fun j hj => absurd hj (by omega), List.prefix_refl X, Nat.le_refl _⟩
  | k + 1, hk => by
    obtain ⟨hp, hx, hl⟩ := Tm.pst_all hL k (by omega)
    have hf : Tm.flt (Tm.mvd (L.getD k Tm.z) (Tm.pst X L k).2) (Tm.pst X L k).1.length (Tm.pst X L k).1 = 0 := Tm.mvd_flt (hL k (by omega)) hp
    obtain ⟨_, hex, hpre⟩ := Tm.mk_made hf
    obtain ⟨i, e, hi, hg⟩ := hex
    refine ⟨fun j hj => ?_, hx.trans hpre, ?_⟩
    · by_cases c : j = k
      · subst c
        refine ⟨i, ?_, hi, ?_⟩
        · simp only [Tm.pst, if_true]; exact e
        · simp only [Tm.pst]; rw [hg]; rfl
      · obtain ⟨i', e', hi', hw⟩ := hp j (by omega)
        refine ⟨i', ?_, Nat.lt_of_lt_of_le hi' hpre.length_le, ?_⟩
        · simp only [Tm.pst, c, if_false]; exact e'
        · simp only [Tm.pst]
          rw [Tm.pre_getD hpre hi']; exact hw
    · have := Tm.mk_len (Tm.pst X L k).1 (Tm.mvd (L.getD k Tm.z) (Tm.pst X L k).2)
      simp only [Tm.pst]
      omega
theorem Tm.pst_flt {X L : List Tm.Nd} (hL : Tm.Ok L L.length) {k : Nat} (hk : k < L.length) : Tm.flt (Tm.mvd (L.getD k Tm.z) (Tm.pst X L k).2) (Tm.pst X L k).1.length (Tm.pst X L k).1 = 0 :=
  Tm.mvd_flt (hL k hk) (Tm.pst_all hL k (Nat.le_of_lt hk)).1
end Go.Proofs.Ytdbcpnpcnkccaaa
namespace Go.Proofs.Ytdbcpnpcnkccaaa
set_option maxRecDepth 100000
open Go.RowKit Go.Maps

theorem Tm.fltAt_take {X : List Tm.Nd} {k j : Nat} (hj : j < k) (hk : k ≤ X.length) : Tm.fltAt (X.take k) j = Tm.fltAt X j := by
  conv => rhs; rw [← List.take_append_drop k X]
  rw [Tm.fltAt_app (by rw [List.length_take]; omega)]
/-- What a check says, at once. -/
theorem Tm.chk_cases (X : List Tm.Nd) : (X.length = 0 ∧ Tm.chk X = (11, 0)) ∨ (∃ k, k < X.length ∧ Tm.fltAt X k ≠ 0 ∧ Tm.Ok X k ∧ Tm.chk X = (Tm.fltAt X k, (k : Int))) ∨ (0 < X.length ∧ Tm.Ok X X.length ∧ Tm.chk X = (0, 0)) := by
  by_cases h0 : X.length = 0
  · exact .inl ⟨h0, Tm.chk_nil h0⟩
  · by_cases h : Tm.Ok X X.length
    · exact .inr (.inr ⟨by omega, h, Tm.chk_ok (by omega) h⟩)
    · have hex : ∃ k, k < X.length ∧ Tm.fltAt X k ≠ 0 := by
        apply Classical.byContradiction
        intro hn
        exact h fun j hj => Classical.byContradiction fun hj' => hn ⟨j, hj, hj'⟩
      obtain ⟨k, hk, hf⟩ := hex
      induction k using Nat.strongRecOn with
      | ind k ih =>
        by_cases ha : Tm.Ok X k
        · exact .inr (.inl ⟨k, hk, hf, ha, Tm.chk_bad hk hf ha⟩)
        · have hex : ∃ j, j < k ∧ Tm.fltAt X j ≠ 0 := by
            apply Classical.byContradiction
            intro hn
            exact ha fun j hj => Classical.byContradiction fun hj' => hn ⟨j, hj, hj'⟩
          obtain ⟨j, hj, hfj⟩ := hex
          exact ih j hj (by omega) hfj
/-- The law, in plain words. -/
def Tm.parts (X : List Tm.Nd) (k : Nat) (nd : Tm.Nd) : Prop :=
  (((Tm.chk X).1 == 0) && (((Tm.chk (X.take k)).1 != 0) || ((Tm.chk (X.take k)).2 != 0)) || ((Tm.chk (X.take k)).1 != 0) && (((Tm.chk X).1 != (Tm.chk (X.take k)).1) || ((Tm.chk X).2 != (Tm.chk (X.take k)).2))) = false ∧
  (((Tm.chk X).1 != 0) && ((Tm.chk (X ++ [nd])).1 == (Tm.chk X).1) && ((Tm.chk (X ++ [nd])).2 == (Tm.chk X).2) || ((Tm.chk X).1 == 0) && (((Tm.chk (X ++ [nd])).1 == 0) && ((Tm.chk (X ++ [nd])).2 == 0) || ((Tm.chk (X ++ [nd])).1 != 0) && ((Tm.chk (X ++ [nd])).2 == (X.length : Int)))) = true
theorem Tm.parts_all (X : List Tm.Nd) (k : Nat) (nd : Tm.Nd) (h1 : 1 ≤ k) (hk : k ≤ X.length) : Tm.parts X k nd := by
  have hlt : (X.take k).length = k := by rw [List.length_take]; omega
  rcases Tm.chk_cases X with ⟨h0, _⟩ | ⟨j, hj, hf, ha, e⟩ | ⟨h0, ha, e⟩
  · omega
  · have ea : Tm.chk (X ++ [nd]) = (Tm.fltAt X j, (j : Int)) := by
      have := Tm.chk_bad (X := X ++ [nd]) (k := j) (by simp; omega) (by rw [Tm.fltAt_app hj]; exact hf) (fun i hi => by rw [Tm.fltAt_app (by omega)]; exact ha i hi)
      rw [this, Tm.fltAt_app hj]
    by_cases hjk : j < k
    · have et : Tm.chk (X.take k) = (Tm.fltAt X j, (j : Int)) := by
        have := Tm.chk_bad (X := X.take k) (k := j) (by omega) (by rw [Tm.fltAt_take hjk hk]; exact hf) (fun i hi => by rw [Tm.fltAt_take (by omega) hk]; exact ha i hi)
        rw [this, Tm.fltAt_take hjk hk]
      unfold Tm.parts
      rw [e, ea, et]
      simp [hf]
    · have et : Tm.chk (X.take k) = (0, 0) := Tm.chk_ok (by omega) (fun i hi => by rw [Tm.fltAt_take (by omega) hk]; exact ha i (by omega))
      unfold Tm.parts
      rw [e, ea, et]
      simp [hf]
  · have et : Tm.chk (X.take k) = (0, 0) := Tm.chk_ok (by omega) (fun i hi => by rw [Tm.fltAt_take (by omega) hk]; exact ha i (by omega))
    by_cases hf : Tm.flt nd X.length X = 0
    · have ea : Tm.chk (X ++ [nd]) = (0, 0) := Tm.chk_ok (by simp) (ha.app hf)
      unfold Tm.parts
      rw [e, ea, et]
      simp
    · have ea : Tm.chk (X ++ [nd]) = (Tm.flt nd X.length X, (X.length : Int)) := by
        have := Tm.chk_bad (X := X ++ [nd]) (k := X.length) (by simp) (by rw [Tm.fltAt_last]; exact hf) (fun i hi => by rw [Tm.fltAt_app hi]; exact ha i hi)
        rw [this, Tm.fltAt_last]
      unfold Tm.parts
      rw [e, ea, et]
      simp [hf]
end Go.Proofs.Ytdbcpnpcnkccaaa
namespace Go.Proofs.Ytdbcpnpcnkccaaa
set_option maxRecDepth 100000
open Go.RowKit Go.Maps

theorem Fr.grown {g : Nat} {m o r : Option Nat} {w a b : World} (h : Fr g m o w a) (k : a.grownBy b r) (hr : ∀ j, r = some j → w.heap.size ≤ j) : Fr g m o w b :=
  ⟨k.os.trans h.os, k.tape.trans h.tape, k.output.trans h.output, Nat.le_trans h.size k.size, fun i hi h1 h2 h3 =>
    (k.block i (Nat.lt_of_lt_of_le hi h.size) (fun e => by have := hr i e.symm; omega)).trans (h.block i hi h1 h2 h3)⟩
/-- A row of integers of the call's own, beside an arena. -/
structure Im (w : World) (g bm : Nat) (A : Option Addr) (B : Nat) (Am : Option Addr) (k cm : Nat) (at' : Nat → Int) : Prop where
  row : w.ownsRow B 3 1 (.slice Am k cm) k ((List.range k).map fun i => Value.int .i64 (at' i))
  ne : ∀ j, oblk Am = some j → j ≠ g ∧ j ≠ bm ∧ oblk A ≠ some j
theorem Im.lt {w : World} {g bm : Nat} {A : Option Addr} {B : Nat} {Am : Option Addr} {k cm : Nat} {at' : Nat → Int} (h : Im w g bm A B Am k cm at') {j : Nat} (hj : oblk Am = some j) : B ≤ j ∧ j < w.heap.size := by
  rcases h.row.2 with ⟨e, _⟩ | ⟨g', cap', cur, e, hb, hc, _⟩
  · injection e with e1 _ _
    subst e1
    simp [oblk] at hj
  · injection e with e1 _ _
    subst e1
    simp [oblk] at hj
    subst hj
    exact ⟨hb, (Array.getElem?_eq_some_iff.1 hc).1⟩
theorem own_keep {w w' : World} {base : Nat} {e : TypeId} {size : Nat} {A : Option Addr} {n cap : Nat} {xs : List Value} (h : w.ownsRow base e size (.slice A n cap) n xs) (hk : ∀ k, oblk A = some k → w'.heap[k]? = w.heap[k]?) : w'.ownsRow base e size (.slice A n cap) n xs := by
  rcases h with ⟨hl, ⟨e', h0⟩ | ⟨g', cap', cur, e', hb', hc, h1, h2, h3, h4⟩⟩
  · exact ⟨hl, .inl ⟨e', h0⟩⟩
  · refine ⟨hl, .inr ⟨g', cap', cur, e', hb', (hk g' ?_).trans hc, h1, h2, h3, h4⟩⟩
    injection e' with e1 _ _
    subst e1
    rfl
theorem Im.below {w w' : World} {g bm : Nat} {A : Option Addr} {B : Nat} {Am : Option Addr} {k cm : Nat} {at' : Nat → Int} (h : Im w g bm A B Am k cm at') (hb : Below w.heap.size w w') : Im w' g bm A B Am k cm at' := ⟨own_below h.row hb, h.ne⟩
theorem Im.make {w w' : World} {g bm : Nat} {A A2 : Option Addr} {B : Nat} {Am : Option Addr} {k cm : Nat} {at' : Nat → Int} (h : Im w g bm A B Am k cm at') (hf : Fr g (some bm) (oblk A) w w') (hv : Moves w.heap.size (oblk A) (oblk A2)) : Im w' g bm A2 B Am k cm at' := by
  refine ⟨own_keep h.row fun j hj => ?_, fun j hj => ?_⟩
  · obtain ⟨h1, h2, h3⟩ := h.ne j hj
    exact hf.block j (h.lt hj).2 h1 (fun e => h2 (Option.some.inj e)) (fun e => h3 e.symm)
  · obtain ⟨h1, h2, h3⟩ := h.ne j hj
    refine ⟨h1, h2, fun e => ?_⟩
    rcases hv with e' | ⟨i, hi, e'⟩
    · exact h3 (e' ▸ e)
    · rw [e'] at e
      injection e with e
      have := (h.lt hj).2
      omega
theorem Im.inr {w : World} {g bm : Nat} {A : Option Addr} {B : Nat} {Am : Option Addr} {k cm : Nat} {at' : Nat → Int} (h : Im w g bm A B Am k cm at') : InR w Am k at' := fun h0 => by
  rcases h.row.2 with ⟨_, h1⟩ | ⟨g', cap', cur, e, hb, hc, _⟩
  · omega
  · have hcell := h.row.cells (g := g')
    injection e with e1 _ _
    subst e1
    have hcell := hcell rfl
    refine ⟨g', 0, rfl, (Array.getElem?_eq_some_iff.1 hc).1, fun i hi => ?_⟩
    have := hcell i (.int .i64 (at' i)) (by simp [hi])
    rw [add_at] at this
    exact this
/-- Behind an append onto it. -/
theorem Im.app {U W : World} {g bm : Nat} {A : Option Addr} {B : Nat} {Am Am2 : Option Addr} {k cm cm2 : Nat} {at' at2 : Nat → Int} {cap : Nat} {X : List Tm.Nd} {q : Nat} {o : Obj} {r : Option Nat} (h : Im U g bm A B Am k cm at') (har : Ar U g bm A cap X q) (hr : r = oblk Am)
    (hrow : W.ownsRow B 3 1 (.slice Am2 (k + 1) cm2) (k + 1) (((List.range k).map fun i => Value.int .i64 (at' i)) ++ [.int .i64 (at2 k)])) (hmv : oblk Am2 = r ∨ oblk Am2 = some (U.alloc o).heap.size) (h2 : ∀ i, i < k → at2 i = at' i) : Im W g bm A B Am2 (k + 1) cm2 at2 := by
  subst hr
  refine ⟨?_, fun j hj => ?_⟩
  · have e : ((List.range (k + 1)).map fun i => Value.int .i64 (at2 i)) = ((List.range k).map fun i => Value.int .i64 (at' i)) ++ [.int .i64 (at2 k)] := by
      rw [List.range_succ, List.map_append, List.map_singleton]
      congr 1
      apply List.map_congr_left
      intro i hi
      rw [h2 i (by simpa using hi)]
    rw [e]
    exact hrow
  · rcases hmv with e | e
    · exact h.ne j (e ▸ hj)
    · rw [e] at hj
      injection hj with hj
      have h1 := har.blk.lt
      have h3 := har.mlt
      have hs : (U.alloc o).heap.size = U.heap.size + 1 := by simp
      refine ⟨by omega, by omega, fun e2 => ?_⟩
      have := (har.ne.2 j e2).2.2
      omega

/-- Put's end, of a list that isn't a term, and of one that is. -/
def PuP (g bm : Nat) (A : Option Addr) (X : List Tm.Nd) (q : Nat) (L : List Tm.Nd) (w : World) (e : Ending) (w' : World) : Prop :=
  ((Tm.chk L).1 ≠ 0 ∧ e = .returned (.tuple #[.int .i64 0, .int .i64 (Tm.chk L).1]) ∧ Below w.heap.size w w') ∨
  ((Tm.chk L).1 = 0 ∧ ∃ A' cap', e = .returned (.tuple #[.int .i64 ((Tm.pst X L L.length).2 (L.length - 1)), .int .i64 0]) ∧ Ar w' g bm A' cap' (Tm.pst X L L.length).1 (q + L.length) ∧ Fr g (some bm) (oblk A) w w' ∧ Moves w.heap.size (oblk A) (oblk A'))
theorem Tm.chk_ok_iff {L : List Tm.Nd} (h : (Tm.chk L).1 = 0) : 0 < L.length ∧ Tm.Ok L L.length := by
  rcases Tm.chk_cases L with ⟨_, e⟩ | ⟨k, _, hf, _, e⟩ | ⟨h0, ha, _⟩
  · rw [e] at h; simp at h
  · rw [e] at h; exact absurd h hf
  · exact ⟨h0, ha⟩
theorem Tm.pst_wf {X L : List Tm.Nd} (hX : X.length ≤ 1000000) (hlen : L.length ≤ 1000000) (hL : Tm.Ok L L.length) (hw : ∀ x ∈ L, Tm.Wf x) {k : Nat} (hk : k < L.length) : Tm.Wf (Tm.mvd (L.getD k Tm.z) (Tm.pst X L k).2) := by
  have hp := Tm.pst_all (X := X) hL k (Nat.le_of_lt hk)
  have hkk := (Tm.kok_in (Tm.flt_zero (hL k hk)).2.2.1)
  have hb : ∀ j, j < k → 0 ≤ (Tm.pst X L k).2 j ∧ (Tm.pst X L k).2 j ≤ 1000000000 := fun j hj => by
    obtain ⟨i, e, hi, _⟩ := hp.1 j hj
    have := hp.2.2
    omega
  have hn := getD_wf hw k
  refine ⟨hn.op, hn.w, hn.n, ?_, ?_, ?_⟩
  all_goals
    unfold Tm.mvd
    dsimp only
    split
  · rename_i c
    have := hkk.1 c
    exact i64_small (hb _ (by omega)).1 (hb _ (by omega)).2
  · exact hn.a
  · rename_i c
    have := hkk.2.1 c
    exact i64_small (hb _ (by omega)).1 (hb _ (by omega)).2
  · exact hn.b
  · rename_i c
    have := hkk.2.2 c
    exact i64_small (hb _ (by omega)).1 (hb _ (by omega)).2
  · exact hn.c

set_option maxRecDepth 20000 in
set_option maxHeartbeats 1000000 in
theorem put_bad (g bm : Nat) (A : Option Addr) (X : List Tm.Nd) (q : Nat) (A0 : Option Addr) (len cap0 : Nat) (L : List Tm.Nd) (w : World) (hx : NdSl w A0 len cap0 L) (hl : len ≤ 65536) (hc : (Tm.chk L).1 ≠ 0) :
    Calls Try.prog 16 #[.pointer (some ⟨g, 0, none⟩), .slice A0 len cap0] w (PuP g bm A X q L w) := by
  have HC := Lib.hid (check_any A0 len cap0 L w hx.nd hx.hlen hx.u hl)
  have HN := Lib.hid hc
  have hc' : ((Tm.chk L).1 != 0) = true := by simpa using hc
  clear hx hc
  generalize hE : (Tm.chk L).1 = E at *
  have HE := Lib.hid hE
  clear hE
  generalize (Tm.chk L).2 = F at *
  go_enter Try.func16, Try.ntmps16
  go_wp2_with fail
  refine HC.out.mono ?_
  rintro e v ⟨rfl, hb⟩
  have HB := Lib.hid hb
  clear hb
  go_wp2
  go_ret2
  exact .inl ⟨by rw [HE.out]; exact HN.out, by rw [HE.out]; rfl, HB.out⟩

/-- Where the root stands, so far. -/
def Tm.rt (X L : List Tm.Nd) (k : Nat) : Int := if k = 0 then 0 else (Tm.pst X L k).2 (k - 1)
/-- The loop's relation. -/
structure PtR (w wr : World) (g bm : Nat) (X L : List Tm.Nd) (q k : Nat) (A A' : Option Addr) (cap' : Nat) (Am : Option Addr) (cm : Nat) (A0 : Option Addr) (cap0 : Nat) : Prop where
  ar : Ar wr g bm A' cap' (Tm.pst X L k).1 (q + k)
  bs : Bs wr g bm A' A0 L.length cap0 L
  im : Im wr g bm A' w.heap.size Am k cm (Tm.pst X L k).2
  fr : Fr g (some bm) (oblk A) w wr
  mv : Moves w.heap.size (oblk A) (oblk A')
theorem run_mk0 (len : Nat) (hl : len ≤ 1000000) (W : World) : (Instr.makeSlice 93 (.int .i64 0) (.int .i64 (len : Int))).run Try.prog W = .ok (.slice (some ⟨W.heap.size, 0, none⟩) 0 len) (W.alloc (.cells (madeCells #[.int .i64 0] len) 3)) := by
  obtain ⟨i, hi, hz⟩ := Option.map_eq_some_iff.1 i_info
  simp only [Prod.mk.injEq] at hz
  obtain ⟨h1, h2, h3⟩ := hz
  have h := run_make (P := Try.prog) W 93 3 i _ Try.underlying93 hi h1 .i64 .i64 0 (len : Int) (by omega) (by omega) (by rw [h3]; omega) (by omega)
  rw [h2] at h
  simpa [Value.cells] using h
theorem mvd_agg (nd : Tm.Nd) : ndv nd = .agg #[.int .i64 nd.op, .int .i64 nd.w, .int .u64 nd.n, .int .i64 nd.a, .int .i64 nd.b, .int .i64 nd.c] := rfl

set_option maxRecDepth 100000 in
set_option maxHeartbeats 8000000 in
theorem put_ok (g bm : Nat) (A : Option Addr) (cap : Nat) (X : List Tm.Nd) (q : Nat) (A0 : Option Addr) (len cap0 : Nat) (L : List Tm.Nd) (w : World) (h : Ar w g bm A cap X q) (hx : Bs w g bm A A0 len cap0 L) (hl : len ≤ 1000) (hX : X.length ≤ 10000) (hq : q ≤ 1000000) (hc : (Tm.chk L).1 = 0) :
    Calls Try.prog 16 #[.pointer (some ⟨g, 0, none⟩), .slice A0 len cap0] w (PuP g bm A X q L w) := by
  have hlen := hx.sl.hlen
  have HC := Lib.hid (check_any A0 len cap0 L w hx.sl.nd hlen hx.sl.u (by omega))
  obtain ⟨h0, hok⟩ := Tm.chk_ok_iff hc
  have HOK := Lib.hid hok
  have HCC := Lib.hid hc
  have hcl := hx.sl.nd.hle
  have hcm := hx.sl.nd.hcap
  unfold maxLen at hcm
  have hmk := run_mk0 len (by omega)
  have HW := Lib.hid hx.sl.wf
  have HX := Lib.hid hX
  have HQ := Lib.hid hq
  have HLN := Lib.hid hlen
  have hl0 : 0 < len := by omega
  obtain ⟨bb, oo, rfl, hbb, hmem⟩ := hx.sl.nd.mem hl0
  have HBBW := Lib.hid hbb
  clear hbb hmem
  have HAR := Lib.hid h
  have HBS := Lib.hid hx
  clear hok h0 h hx hX hq hlen
  rw [hc] at HC
  clear hc
  generalize (Tm.chk L).2 = F at HC
  go_enter Try.func16, Try.ntmps16
  go_wp2_with fail
  refine HC.out.mono ?_
  rintro e v ⟨rfl, hb⟩
  have hst : PtR w (v.alloc (.cells (madeCells #[.int .i64 0] len) 3)) g bm X L q 0 A A cap (some ⟨v.heap.size, 0, none⟩) len (some ⟨bb, oo, none⟩) cap0 := by
    have h1 := HAR.out.below hb
    have hbx := Below.box v (.cells (madeCells #[.int .i64 0] len) 3)
    have hg := h1.blk.lt
    have hm := h1.mlt
    refine ⟨h1.below hbx, by rw [HLN.out]; exact (HBS.out.below hb).below hbx, ⟨own_base (World.ownsRow_made (base := v.heap.size) v _ len (Nat.le_refl _) (by simp only [maxLen]; omega) (by simp [madeCells])) hb.size, fun j hj => ?_⟩, (Fr.of_below hb).below hbx, Moves.refl _ _⟩
    simp [oblk] at hj
    refine ⟨by omega, by omega, fun e => ?_⟩
    have := (h1.ne.2 j e).2.2
    omega
  have HST := Lib.hid hst
  clear hb hst HC
  go_wp2_with fail
  clear hmk
  go_loopw [8, 9, 27] (fun r m t wr => ∃ (k : Nat) (A' : Option Addr) (cap' : Nat) (Am : Option Addr) (cm : Nat), k ≤ len ∧ t = .int .i64 k ∧ r = .int .i64 (Tm.rt X L k) ∧ m = .slice Am k cm ∧ PtR w wr g bm X L q k A A' cap' Am cm (some ⟨bb, oo, none⟩) cap0) (fun _ _ t _ => len - (intOf t).toNat)
  case atStart => exact ⟨0, A, cap, _, len, Nat.zero_le _, rfl, rfl, rfl, HST.out⟩
  case round =>
    obtain ⟨k, A', cap', Am, cm, hk, rfl, rfl, rfl, hR⟩ := hrel
    by_cases hlt : k < len
    · obtain ⟨b1, o1, e1, hbb, hmem⟩ := hR.bs.sl.nd.mem (by rw [HLN.out]; omega)
      injection e1 with e1
      injection e1 with e11 e12 e13
      subst e11 e12
      obtain ⟨x0, x1, x2, x3, x4, x5⟩ := hmem k (by rw [HLN.out]; exact hlt)
      have hk1 : (k : Int) < len := by omega
      have hk0 : (0 : Int) ≤ k := by omega
      have hkL : k < L.length := by rw [HLN.out]; exact hlt
      have hf0 := HOK.out k hkL
      have hkok := (Tm.flt_zero hf0).2.2.1
      have HWF := Lib.hid (Tm.pst_wf (X := X) (by have := HX.out; omega) (by rw [HLN.out]; omega) HOK.out HW.out hkL)
      have hfm := Tm.pst_flt (X := X) HOK.out hkL
      have hmd := Tm.mk_made hfm
      have hpl := (Tm.pst_all (X := X) HOK.out k (by rw [HLN.out]; omega)).2.2
      have HPL := Lib.hid hpl
      have HR := Lib.hid hR
      have hbx := Below.box wr (.cells #[.int .i64 (L.getD k Tm.z).op, .int .i64 (L.getD k Tm.z).w, .int .u64 (L.getD k Tm.z).n, .int .i64 (L.getD k Tm.z).a, .int .i64 (L.getD k Tm.z).b, .int .i64 (L.getD k Tm.z).c] 36)
      have HBX := Lib.hid hbx
      have HMV := Lib.hid (moved_any (L.getD k Tm.z) Am k cm (Tm.pst X L k).2 _ (hR.im.inr.below hbx) hkok)
      have HP1 := Lib.hid (show (Tm.pst X L (k + 1)).1 = (Tm.mk (Tm.pst X L k).1 (Tm.mvd (L.getD k Tm.z) (Tm.pst X L k).2)).1 from rfl)
      have HP2 := Lib.hid (show (Tm.pst X L (k + 1)).2 k = (Tm.mk (Tm.pst X L k).1 (Tm.mvd (L.getD k Tm.z) (Tm.pst X L k).2)).2.1 by simp [Tm.pst])
      have HP3 := Lib.hid (show ∀ i, i < k → (Tm.pst X L (k + 1)).2 i = (Tm.pst X L k).2 i from fun i hi => by simp only [Tm.pst]; rw [if_neg (by omega)])
      have HE0 := Lib.hid hmd.1
      have HRT := Lib.hid (show Tm.rt X L (k + 1) = (Tm.pst X L (k + 1)).2 k by rw [Tm.rt, if_neg (by omega)]; rfl)
      clear hmem hf0 hkok hfm hmd hpl hbx hR hbb
      generalize Tm.rt X L k = RT
      generalize hmv : Tm.mvd (L.getD k Tm.z) (Tm.pst X L k).2 = md at *
      clear hmv
      generalize L.getD k Tm.z = nd at *
      obtain ⟨op, v', n, a, b, c⟩ := nd
      obtain ⟨op', v1, n', a', b', c'⟩ := md
      dsimp only [ndv] at *
      go_wp2_with fail
      refine HMV.out.mono ?_
      rintro e V1 ⟨rfl, hb1⟩
      have hB1 : Below wr.heap.size wr V1 := HBX.out.trans (hb1.mono HBX.out.size)
      have har1 := HR.out.ar.below hB1
      have HBS1 := Lib.hid (HR.out.bs.below hB1)
      have HIM1 := Lib.hid (HR.out.im.below hB1)
      have HFR1 := Lib.hid (HR.out.fr.below hB1)
      have HSZ1 := Lib.hid (Nat.le_trans HR.out.fr.size hB1.size)
      have HMK := Lib.hid (make_any g bm A' cap' (Tm.pst X L k).1 (q + k) ⟨op', v1, n', a', b', c'⟩ V1 har1 (by have := HQ.out; omega) HWF.out (by have := HPL.out; have := HX.out; omega))
      have HMVS := Lib.hid HR.out.mv
      clear hb1 hB1 har1 HMV x0 x1 x2 x3 x4 x5
      dsimp only [ndv] at HMK
      go_wp2_with fail
      refine HMK.out.mono ?_
      rintro e V2 ⟨A2, cap2, rfl, har2, hfr2, hmv2⟩
      rw [HE0.out, ← HP2.out]
      have HAR2 := Lib.hid (show Ar V2 g bm A2 cap2 (Tm.pst X L (k + 1)).1 (q + k + 1) by rw [HP1.out]; exact har2)
      have HBS2 := Lib.hid (HBS1.out.make hfr2 hmv2)
      have HIM2 := Lib.hid (HIM1.out.make hfr2 hmv2)
      have HFR2 := Lib.hid (HFR1.out.trans hfr2 HMVS.out)
      have HMV2 := Lib.hid (HMVS.out.trans hmv2 HSZ1.out)
      clear har2 hfr2 hmv2 HMK
      generalize hpp : (Tm.pst X L (k + 1)).2 k = PP at *
      have HPP := Lib.hid hpp
      clear hpp
      have HRW := Lib.hid (HIM2.out.row.alloc (.cells #[.int .i64 PP] 3))
      have HB0 := Lib.hid (Nat.le_trans (show w.heap.size ≤ V2.heap.size from HFR2.out.size) (Below.box V2 (.cells #[.int .i64 PP] 3)).size)
      obtain ⟨i0, hi0, hz0, hz1, hz2⟩ := info_parts i_info
      go_wp2_with (at_builtin
                   refine wpList_apS (w := V2.alloc (.cells #[.int .i64 PP] 3)) rfl (.tmp 42) (.tmp 44) 93 rfl w.heap.size 3 i0 _ 1 8 Try.underlying93 hi0 hz0 hz1 hz2 rfl (by omega) (.slice Am k cm) k _ rfl
                     HRW.out ⟨V2.heap.size, 0, none⟩ 1 1 [.int .i64 PP] rfl rfl (fun j u hu => by
                       rcases j with _ | j
                       · rw [add_at, Nat.zero_add, World.cell?_alloc_new]; exact hu
                       · simp at hu) (fun u hu => by rw [List.mem_singleton.1 hu]; rfl) (by simp only [maxLen]; omega) (by omega) HB0.out (k + 1) _ rfl rfl ?_
                   intro Am2 cm2 V3 hrow hgrow hmv3
                   have HR3 := Lib.hid hrow
                   have HG3 := Lib.hid hgrow
                   have HM3 := Lib.hid hmv3
                   clear hrow hgrow hmv3)
      go_roundw
      case rel =>
        have hgr : V2.grownBy V3 (oblk Am) := by
          have h1 := HG3.out
          rw [own_is] at h1
          exact (World.grownBy_alloc V2 _ _).trans h1
        have hne := HIM2.out.ne
        have hlt3 : ∀ j, oblk Am = some j → w.heap.size ≤ j := fun j hj => (HIM2.out.lt hj).1
        refine ⟨k + 1, A2, cap2, Am2, cm2, by omega, by go_num, by rw [HRT.out], rfl, ⟨HAR2.out.keep hgr.size (fun j hj => hgr.block j ?_ ?_), ?_, HIM2.out.app HAR2.out own_is ?_ HM3.out HP3.out, HFR2.out.grown hgr hlt3, HMV2.out⟩⟩
        · rcases hj with rfl | rfl | hj
          · exact HAR2.out.blk.lt
          · exact HAR2.out.mlt
          · exact (HAR2.out.ne.2 j hj).2.2
        · intro e
          obtain ⟨q1, q2, q3⟩ := hne j e.symm
          rcases hj with rfl | rfl | hj
          · exact q1 rfl
          · exact q2 rfl
          · exact q3 hj
        · refine ⟨⟨HBS2.out.sl.hlen, HBS2.out.sl.nd.keep hgr.size (fun _ j hj hjl => hgr.block j hjl (fun e => ?_)), HBS2.out.sl.wf⟩, HBS2.out.ne⟩
          have h1 := hlt3 j e.symm
          simp [oblk] at hj
          have := HBBW.out
          omega
        · rw [HPP.out]; exact HR3.out
      case measure => simp [intOf]; omega
    · have hke : k = len := by omega
      subst hke
      have HR := Lib.hid hR
      clear hR
      have HRT := Lib.hid (show Tm.rt X L k = (Tm.pst X L L.length).2 (L.length - 1) by rw [Tm.rt, if_neg (by omega), HLN.out])
      generalize Tm.rt X L k = RT at HRT ⊢
      go_wp2
      go_ret2
      refine .inr ⟨HCC.out, A', cap', by rw [← HRT.out]; rfl, ?_, HR.out.fr, HR.out.mv⟩
      have := HR.out.ar
      rw [HLN.out]
      exact this
end Go.Proofs.Ytdbcpnpcnkccaaa
