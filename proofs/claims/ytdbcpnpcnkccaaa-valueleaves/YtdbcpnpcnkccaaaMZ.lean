/-
  Layer 7, plain: values hang on leaves alone.
  The walk of ValueLeaves.
  The walk of ValueLeaves.
-/
import Derived.Test.YtdbcpnpcnkccaaaMT
import Derived.Deep.Cut
set_option linter.unusedSimpArgs false
set_option linter.unusedVariables false
namespace Go.Proofs.Ytdbcpnpcnkccaaa
set_option maxRecDepth 100000
open Go.RowKit Go.Maps
namespace Vl

theorem get_mem {X : List Tm.Nd} {v m1 m2 : List Int} {m : Nat} (hd : Down X m) (hm : ∀ j, j < m → (X.getD j Tm.z).op = 3 → m1 = m2) {k : Int} : ∀ (f a : Nat), a < m → get X v m1 f a k = get X v m2 f a k := by
  intro f
  induction f with
  | zero => intro a _; rfl
  | succ f ih =>
    intro a ha
    rw [get, get]
    simp only [Int.toNat_natCast]
    by_cases h : (X.getD a Tm.z).op = 24
    · rw [if_pos h, if_pos h]
      obtain ⟨⟨h0, h1⟩, _⟩ := hd a ha h
      obtain ⟨b, hb⟩ := Int.eq_ofNat_of_zero_le h0
      rw [hb] at h1 ⊢
      rw [ih b (by omega)]
    · rw [if_neg h, if_neg h]
      by_cases h3 : (X.getD a Tm.z).op = 3
      · rw [hm a ha h3]
      · rw [if_neg h3, if_neg h3]
/-- Two environments that agree on the leaves of the first m nodes. -/
def Agree (X : List Tm.Nd) (a M : Env) (m : Nat) : Prop := ∀ j, j < m → ((X.getD j Tm.z).op = 1 → att M.inp (X.getD j Tm.z).n = att a.inp (X.getD j Tm.z).n) ∧ ((X.getD j Tm.z).op = 2 → att M.regs (X.getD j Tm.z).n = att a.regs (X.getD j Tm.z).n) ∧ ((X.getD j Tm.z).op = 3 → M.mem = a.mem)
theorem vals_env {X : List Tm.Nd} {a M : Env} {m : Nat} (hok : Tm.Ok X m) (h : Agree X a M m) : ∀ i, i ≤ m → vals X M i = vals X a i
  | 0, _ => rfl
  | i + 1, hi => by
    rw [vals, vals, vals_env hok h i (by omega)]
    congr 2
    obtain ⟨h1, h2, _⟩ := h i (by omega)
    have hk := kd_of hok (show i < m by omega)
    have hd : Down X i := down_of fun t ht => hok t (by omega)
    generalize hnd : X.getD i Tm.z = nd at *
    unfold one
    by_cases c0 : nd.op = 0
    · rw [if_pos c0, if_pos c0]
    rw [if_neg c0, if_neg c0]
    by_cases c1 : nd.op = 1
    · rw [if_pos c1, if_pos c1, h1 c1]
    rw [if_neg c1, if_neg c1]
    by_cases c2 : nd.op = 2
    · rw [if_pos c2, if_pos c2, h2 c2]
    rw [if_neg c2, if_neg c2]
    by_cases c3 : nd.op = 3 ∨ nd.op = 4 ∨ nd.op = 24
    · rw [if_pos c3, if_pos c3]
    rw [if_neg c3, if_neg c3]
    by_cases c6 : nd.op = 6
    · rw [if_pos c6, if_pos c6]
    rw [if_neg c6, if_neg c6]
    by_cases c7 : nd.op = 7
    · rw [if_pos c7, if_pos c7]
    rw [if_neg c7, if_neg c7]
    by_cases c22 : nd.op = 22
    · rw [if_pos c22, if_pos c22]
    rw [if_neg c22, if_neg c22]
    by_cases c23 : nd.op = 23
    · rw [if_pos c23, if_pos c23]
      have hk1 := hk.1 (by rw [c23]; decide)
      obtain ⟨b, hb⟩ := Int.eq_ofNat_of_zero_le hk1.1
      rw [hb] at hk1 ⊢
      exact get_mem hd (fun j hj h3 => (h j (by omega)).2.2 h3) _ b (by omega)
    rw [if_neg c23, if_neg c23]
theorem ofR_env {X : List Tm.Nd} {a M : Env} (h : Agree X a M X.length) : ofR X M = ofR X a := by
  unfold ofR
  by_cases hc : (Tm.chk X).1 = 0
  · rw [vals_env (Tm.chk_ok_iff hc).2 h _ (Nat.le_refl _)]
  · rw [if_pos hc, if_pos hc]

/-- The mixed environment behind a node. -/
def mixS (a M : Env) (nd : Tm.Nd) : Env :=
  if nd.op = 1 then ⟨M.inp.set nd.n.toNat (att a.inp nd.n), M.regs, M.mem⟩ else if nd.op = 2 then ⟨M.inp, M.regs.set nd.n.toNat (att a.regs nd.n), M.mem⟩ else if nd.op = 3 then ⟨M.inp, M.regs, a.mem⟩ else M
def mix (a M0 : Env) (X : List Tm.Nd) : Nat → Env
  | 0 => M0
  | i + 1 => mixS a (mix a M0 X i) (X.getD i Tm.z)
def mix0 (b : Env) : Env := ⟨(List.range 16).map fun (i : Nat) => att b.inp i, b.regs, b.mem⟩
theorem getD_set {l : List Int} {i j : Nat} {x : Int} (h : i < l.length) : (l.set i x).getD j 0 = if j = i then x else l.getD j 0 := by
  rw [List.getD_eq_getElem?_getD, List.getElem?_set, List.getD_eq_getElem?_getD]
  by_cases e : i = j
  · subst e; simp [h]
  · rw [if_neg e, if_neg (fun h => e h.symm)]
structure MOk (a M : Env) : Prop where
  inp : M.inp.length = 16
  ok : M.Ok
theorem mixS_ok {a M : Env} {nd : Tm.Nd} (ha : a.Ok) (h : MOk a M) (h1 : nd.op = 1 → 0 ≤ nd.n ∧ nd.n < 16) (h2 : nd.op = 2 → 0 ≤ nd.n ∧ nd.n < 8) : MOk a (mixS a M nd) := by
  obtain ⟨hi, hb, hr, hm, hl⟩ := h
  unfold mixS
  by_cases c1 : nd.op = 1
  · rw [if_pos c1]
    have := h1 c1
    refine ⟨by simp [hi], ⟨fun j => ?_, hr, hm, hl⟩⟩
    show 0 ≤ (M.inp.set _ _).getD j 0 ∧ _
    rw [getD_set (by omega)]
    split
    · exact ha.inp _
    · exact hb j
  rw [if_neg c1]
  by_cases c2 : nd.op = 2
  · rw [if_pos c2]
    have := h2 c2
    refine ⟨hi, ⟨hb, fun j => ?_, hm, by simp [hl]⟩⟩
    show 0 ≤ (M.regs.set _ _).getD j 0 ∧ _
    rw [getD_set (by omega)]
    split
    · exact ha.regs _
    · exact hr j
  rw [if_neg c2]
  by_cases c3 : nd.op = 3
  · rw [if_pos c3]; exact ⟨hi, ⟨hb, hr, ha.mem, hl⟩⟩
  · rw [if_neg c3]; exact ⟨hi, ⟨hb, hr, hm, hl⟩⟩
theorem leaf_n {X : List Tm.Nd} {m j : Nat} (hok : Tm.Ok X m) (hu : ∀ i, Tm.U64 (X.getD i Tm.z).n) (hj : j < m) : ((X.getD j Tm.z).op = 1 → 0 ≤ (X.getD j Tm.z).n ∧ (X.getD j Tm.z).n < 16) ∧ ((X.getD j Tm.z).op = 2 → 0 ≤ (X.getD j Tm.z).n ∧ (X.getD j Tm.z).n < 8) := by
  have hn := (Tm.flt_zero (show Tm.flt (X.getD j Tm.z) j X = 0 from hok j hj)).2.2.2.2
  have h0 := (hu j).1
  constructor
  · intro h; rw [h] at hn; exact ⟨h0, by simpa [Tm.nok] using hn⟩
  · intro h; rw [h] at hn; exact ⟨h0, by simpa [Tm.nok] using hn⟩
theorem mix_ok {X : List Tm.Nd} {a b : Env} {m : Nat} (hok : Tm.Ok X m) (hu : ∀ i, Tm.U64 (X.getD i Tm.z).n) (ha : a.Ok) (h0 : MOk a (mix0 b)) : ∀ i, i ≤ m → MOk a (mix a (mix0 b) X i) ∧ Agree X a (mix a (mix0 b) X i) i
  | 0, _ => ⟨h0, fun j hj => absurd hj (by omega)⟩
  | i + 1, hi => by
    obtain ⟨h1, h2⟩ := mix_ok hok hu ha h0 i (by omega)
    obtain ⟨n1, n2⟩ := leaf_n hok hu (show i < m by omega)
    refine ⟨mixS_ok ha h1 n1 n2, fun j hj => ?_⟩
    rw [mix]
    generalize mix a (mix0 b) X i = M at *
    generalize hnd : X.getD i Tm.z = nd at *
    by_cases c1 : nd.op = 1
    · have hn := n1 c1
      have hM : mixS a M nd = ⟨M.inp.set nd.n.toNat (att a.inp nd.n), M.regs, M.mem⟩ := if_pos c1
      rw [hM]
      have key : ∀ k : Int, 0 ≤ k → att (M.inp.set nd.n.toNat (att a.inp nd.n)) k = if k = nd.n then att a.inp nd.n else att M.inp k := fun k hk => by
        unfold att
        rw [getD_set (by have := h1.inp; omega)]
        by_cases e : k = nd.n
        · rw [if_pos e, if_pos (by rw [e])]
        · rw [if_neg e, if_neg (by omega)]
      rcases Nat.lt_or_ge j i with h | h
      · obtain ⟨p1, p2, p3⟩ := h2 j h
        refine ⟨fun c => ?_, p2, p3⟩
        show att (M.inp.set _ _) _ = _
        rw [key _ (hu j).1]
        split
        · rename_i e; rw [e]
        · exact p1 c
      · obtain rfl : j = i := by omega
        rw [hnd]
        refine ⟨fun _ => ?_, fun c => by omega, fun c => by omega⟩
        show att (M.inp.set _ _) _ = _
        rw [key _ hn.1, if_pos rfl]
    by_cases c2 : nd.op = 2
    · have hn := n2 c2
      have hM : mixS a M nd = ⟨M.inp, M.regs.set nd.n.toNat (att a.regs nd.n), M.mem⟩ := by rw [mixS, if_neg c1, if_pos c2]
      rw [hM]
      have key : ∀ k : Int, 0 ≤ k → att (M.regs.set nd.n.toNat (att a.regs nd.n)) k = if k = nd.n then att a.regs nd.n else att M.regs k := fun k hk => by
        unfold att
        rw [getD_set (by have := h1.ok.len; omega)]
        by_cases e : k = nd.n
        · rw [if_pos e, if_pos (by rw [e])]
        · rw [if_neg e, if_neg (by omega)]
      rcases Nat.lt_or_ge j i with h | h
      · obtain ⟨p1, p2, p3⟩ := h2 j h
        refine ⟨p1, fun c => ?_, p3⟩
        show att (M.regs.set _ _) _ = _
        rw [key _ (hu j).1]
        split
        · rename_i e; rw [e]
        · exact p2 c
      · obtain rfl : j = i := by omega
        rw [hnd]
        refine ⟨fun c => by omega, fun _ => ?_, fun c => by omega⟩
        show att (M.regs.set _ _) _ = _
        rw [key _ hn.1, if_pos rfl]
    by_cases c3 : nd.op = 3
    · have hM : mixS a M nd = ⟨M.inp, M.regs, a.mem⟩ := by rw [mixS, if_neg c1, if_neg c2, if_pos c3]
      rw [hM]
      rcases Nat.lt_or_ge j i with h | h
      · obtain ⟨p1, p2, p3⟩ := h2 j h
        exact ⟨p1, p2, fun _ => rfl⟩
      · obtain rfl : j = i := by omega
        rw [hnd]
        exact ⟨fun c => by omega, fun c => by omega, fun _ => rfl⟩
    · have hM : mixS a M nd = M := by rw [mixS, if_neg c1, if_neg c2, if_neg c3]
      rw [hM]
      rcases Nat.lt_or_ge j i with h | h
      · exact h2 j h
      · obtain rfl : j = i := by omega
        rw [hnd]
        exact ⟨fun c => absurd c c1, fun c => absurd c c2, fun c => absurd c c3⟩
end Vl
end Go.Proofs.Ytdbcpnpcnkccaaa
namespace Go.Proofs.Ytdbcpnpcnkccaaa
set_option maxRecDepth 100000
open Go.RowKit Go.Maps

/-- Behind two environments' boxes, all as it was. -/
structure Eb2 (w0 w : World) (E G : EnV) : Prop where
  e1 : EnB w w0.heap.size E
  e2 : EnB w (w0.heap.size + 1) G
  bel : Below w0.heap.size w0 w
theorem Eb2.next {w0 w w' : World} {E G : EnV} (h : Eb2 w0 w E G) (hb : Below w.heap.size w w') : Eb2 w0 w' E G := ⟨(hb.block _ h.e1.lt).trans h.e1, (hb.block _ h.e2.lt).trans h.e2, h.bel.trans (hb.mono h.bel.size)⟩
theorem Eb2.new (w : World) (E G : EnV) : Eb2 w ((w.alloc (.cells #[.slice E.A1 E.n1 E.c1, .int .u64 E.r0, .int .u64 E.r1, .int .u64 E.r2, .int .u64 E.r3, .int .u64 E.r4, .int .u64 E.r5, .int .u64 E.r6, .int .u64 E.r7, .slice E.A2 E.n2 E.c2] 43)).alloc (.cells #[.slice G.A1 G.n1 G.c1, .int .u64 G.r0, .int .u64 G.r1, .int .u64 G.r2, .int .u64 G.r3, .int .u64 G.r4, .int .u64 G.r5, .int .u64 G.r6, .int .u64 G.r7, .slice G.A2 G.n2 G.c2] 43)) E G :=
  ⟨heap_alloc2_old w _ _, heap_alloc2_new w _ _, (Below.box _ _).trans ((Below.box _ _).mono (by simp))⟩
theorem env_g (G : EnV) : G.v = .agg #[.slice G.A1 G.n1 G.c1, .int .u64 G.r0, .int .u64 G.r1, .int .u64 G.r2, .int .u64 G.r3, .int .u64 G.r4, .int .u64 G.r5, .int .u64 G.r6, .int .u64 G.r7, .slice G.A2 G.n2 G.c2] := rfl

/-- The mixed environment as it lies in memory. -/
structure Mx (w0 w : World) (ib mb : Nat) (M : Vl.Env) : Prop where
  ne : ib ≠ mb
  hib : w0.heap.size ≤ ib
  hmb : w0.heap.size ≤ mb
  bel : Below w0.heap.size w0 w
  bi : ∃ cb, Blk w ib 5 cb ∧ cb.size = 16 ∧ ∀ i, i < 16 → cb[i]? = some (.int .u8 (M.inp.getD i 0))
  bm : ∃ cs A2 n2 c2, Blk w mb 43 cs ∧ cs.size = 10 ∧ cs[0]? = some (.slice (some ⟨ib, 0, none⟩) 16 16) ∧ (∀ i, i < 8 → cs[1 + i]? = some (.int .u64 (M.regs.getD i 0))) ∧ cs[9]? = some (.slice A2 n2 c2) ∧ BtR w0 A2 n2 c2 M.mem
theorem Mx.drew {w0 w : World} {ib mb : Nat} {M : Vl.Env} (h : Mx w0 w ib mb M) : Mx w0 w.drew ib mb M := ⟨h.ne, h.hib, h.hmb, h.bel.drew, h.bi, h.bm⟩
theorem blk_other {w : World} {g g' i : Nat} {t : TypeId} {cs : Array Value} {v : Value} (h : Blk w g t cs) (hne : g' ≠ g) : Blk (w.setCell ⟨g', i, none⟩ v) g t cs :=
  (Below.heap_setCell _ _ _ _ hne.symm).trans h
theorem Mx.setI {w0 w : World} {ib mb i : Nat} {M : Vl.Env} {x : Int} (h : Mx w0 w ib mb M) (hi : i < 16) (hl : M.inp.length = 16) : Mx w0 (w.setCell ⟨ib, i, none⟩ (.int .u8 x)) ib mb ⟨M.inp.set i x, M.regs, M.mem⟩ := by
  obtain ⟨cb, hb, hs, hc⟩ := h.bi
  obtain ⟨cs, A2, n2, c2, hm, h1, h2, h3, h4, h5⟩ := h.bm
  refine ⟨h.ne, h.hib, h.hmb, h.bel.setCell h.hib _, ⟨_, hb.set _, by simp [hs], fun j hj => ?_⟩, cs, A2, n2, c2, blk_other hm h.ne, h1, h2, h3, h4, h5⟩
  show (cb.setIfInBounds i _)[j]? = some (.int .u8 ((M.inp.set i x).getD j 0))
  rw [Vl.getD_set (by omega), Array.getElem?_setIfInBounds]
  by_cases e : i = j
  · subst e; simp [hs, hi]
  · rw [if_neg e, if_neg (fun h => e h.symm)]; exact hc j hj
theorem Mx.setR {w0 w : World} {ib mb i : Nat} {M : Vl.Env} {x : Int} (h : Mx w0 w ib mb M) (hi : i < 8) (hl : M.regs.length = 8) : Mx w0 (w.setCell ⟨mb, 1 + i, none⟩ (.int .u64 x)) ib mb ⟨M.inp, M.regs.set i x, M.mem⟩ := by
  obtain ⟨cb, hb, hs, hc⟩ := h.bi
  obtain ⟨cs, A2, n2, c2, hm, h1, h2, h3, h4, h5⟩ := h.bm
  refine ⟨h.ne, h.hib, h.hmb, h.bel.setCell h.hmb _, ⟨cb, blk_other hb h.ne.symm, hs, hc⟩, _, A2, n2, c2, hm.set _, by simp [h1], ?_, fun j hj => ?_, ?_, h5⟩
  · rw [Array.getElem?_setIfInBounds, if_neg (by omega)]; exact h2
  · show (cs.setIfInBounds (1 + i) _)[1 + j]? = some (.int .u64 ((M.regs.set i x).getD j 0))
    rw [Vl.getD_set (by omega), Array.getElem?_setIfInBounds]
    by_cases e : i = j
    · subst e; simp [h1, show 1 + i < 10 by omega]
    · rw [if_neg (by omega), if_neg (fun h => e h.symm)]; exact h3 j hj
  · rw [Array.getElem?_setIfInBounds, if_neg (by omega)]; exact h4
theorem Mx.setM {w0 w : World} {ib mb n c : Nat} {A : Option Addr} {l : List Int} {M : Vl.Env} (h : Mx w0 w ib mb M) (hA : BtR w0 A n c l) : Mx w0 (w.setCell ⟨mb, 9, none⟩ (.slice A n c)) ib mb ⟨M.inp, M.regs, l⟩ := by
  obtain ⟨cb, hb, hs, hc⟩ := h.bi
  obtain ⟨cs, A2, n2, c2, hm, h1, h2, h3, h4, h5⟩ := h.bm
  refine ⟨h.ne, h.hib, h.hmb, h.bel.setCell h.hmb _, ⟨cb, blk_other hb h.ne.symm, hs, hc⟩, _, A, n, c, hm.set _, by simp [h1], ?_, fun j hj => ?_, ?_, hA⟩
  · rw [Array.getElem?_setIfInBounds, if_neg (by omega)]; exact h2
  · rw [Array.getElem?_setIfInBounds, if_neg (by omega)]; exact h3 j hj
  · rw [Array.getElem?_setIfInBounds, if_pos rfl, if_pos (by omega)]
theorem Mx.env {w0 w : World} {ib mb : Nat} {M : Vl.Env} (h : Mx w0 w ib mb M) (hok : M.Ok) (hl : M.inp.length = 16) : ∃ E : EnV, EnB w mb E ∧ EnIn w (fun _ => False) E M := by
  obtain ⟨cb, hb, hs, hc⟩ := h.bi
  obtain ⟨cs, A2, n2, c2, hm, h1, h2, h3, h4, h5⟩ := h.bm
  refine ⟨⟨some ⟨ib, 0, none⟩, 16, 16, M.regs.getD 0 0, M.regs.getD 1 0, M.regs.getD 2 0, M.regs.getD 3 0, M.regs.getD 4 0, M.regs.getD 5 0, M.regs.getD 6 0, M.regs.getD 7 0, A2, n2, c2⟩, ?_, ⟨BtR.in_none ⟨hl, Nat.le_refl _, (show 16 ≤ maxLen by unfold maxLen; decide), fun _ => ⟨ib, 0, rfl, hb.lt, fun i hi => ?_⟩⟩, ?_, BtR.in_none (h5.below h.bel), hok⟩⟩
  · have e : cs = #[.slice (some ⟨ib, 0, none⟩) 16 16, .int .u64 (M.regs.getD 0 0), .int .u64 (M.regs.getD 1 0), .int .u64 (M.regs.getD 2 0), .int .u64 (M.regs.getD 3 0), .int .u64 (M.regs.getD 4 0), .int .u64 (M.regs.getD 5 0), .int .u64 (M.regs.getD 6 0), .int .u64 (M.regs.getD 7 0), .slice A2 n2 c2] := by
      refine Array.ext_getElem? fun i => ?_
      rcases (show i = 0 ∨ i = 1 ∨ i = 2 ∨ i = 3 ∨ i = 4 ∨ i = 5 ∨ i = 6 ∨ i = 7 ∨ i = 8 ∨ i = 9 ∨ 10 ≤ i by omega) with rfl | rfl | rfl | rfl | rfl | rfl | rfl | rfl | rfl | rfl | hi
      · exact h2
      · exact h3 0 (by omega)
      · exact h3 1 (by omega)
      · exact h3 2 (by omega)
      · exact h3 3 (by omega)
      · exact h3 4 (by omega)
      · exact h3 5 (by omega)
      · exact h3 6 (by omega)
      · exact h3 7 (by omega)
      · exact h4
      · rw [Array.getElem?_eq_none (by omega), Array.getElem?_eq_none (by simpa using hi)]
    rw [e] at hm
    exact hm
  · rw [Nat.zero_add, hb.c]; exact hc i hi
  · have hl8 := hok.len
    generalize M.regs = l at hl8
    match l, hl8 with
    | [a0, a1, a2, a3, a4, a5, a6, a7], _ => rfl
theorem mix0_of {b M : Vl.Env} (hl : M.inp.length = 16) (h : ∀ j : Nat, j < 16 → M.inp.getD j 0 = Vl.att b.inp j) (hr : M.regs = b.regs) (hm : M.mem = b.mem) : M = Vl.mix0 b := by
  obtain ⟨i, r, m⟩ := M
  simp only at hr hm hl h
  subst hr hm
  unfold Vl.mix0
  congr 1
  refine List.ext_getElem (by simp [hl]) fun j h1 h2 => ?_
  have := h j (by omega)
  rw [List.getD_eq_getElem?_getD, List.getElem?_eq_getElem h1] at this
  simp at this ⊢
  exact this
theorem zeros_at : ∀ i, i < 16 → (#[.int .u8 0, .int .u8 0, .int .u8 0, .int .u8 0, .int .u8 0, .int .u8 0, .int .u8 0, .int .u8 0, .int .u8 0, .int .u8 0, .int .u8 0, .int .u8 0, .int .u8 0, .int .u8 0, .int .u8 0, .int .u8 0] : Array Value)[i]? = some (.int .u8 ((List.replicate 16 (0 : Int)).getD i 0)) := fun i hi => by
  rcases (show i = 0 ∨ i = 1 ∨ i = 2 ∨ i = 3 ∨ i = 4 ∨ i = 5 ∨ i = 6 ∨ i = 7 ∨ i = 8 ∨ i = 9 ∨ i = 10 ∨ i = 11 ∨ i = 12 ∨ i = 13 ∨ i = 14 ∨ i = 15 by omega) with rfl | rfl | rfl | rfl | rfl | rfl | rfl | rfl | rfl | rfl | rfl | rfl | rfl | rfl | rfl | rfl <;> rfl
theorem cells_at {ib : Nat} {G : EnV} {l : List Int} (h : l = [G.r0, G.r1, G.r2, G.r3, G.r4, G.r5, G.r6, G.r7]) : ∀ i, i < 8 → (#[.slice (some ⟨ib, 0, none⟩) 16 16, .int .u64 G.r0, .int .u64 G.r1, .int .u64 G.r2, .int .u64 G.r3, .int .u64 G.r4, .int .u64 G.r5, .int .u64 G.r6, .int .u64 G.r7, .slice G.A2 G.n2 G.c2] : Array Value)[1 + i]? = some (.int .u64 (l.getD i 0)) := fun i hi => by
  subst h
  rcases (show i = 0 ∨ i = 1 ∨ i = 2 ∨ i = 3 ∨ i = 4 ∨ i = 5 ∨ i = 6 ∨ i = 7 by omega) with rfl | rfl | rfl | rfl | rfl | rfl | rfl | rfl <;> rfl
theorem Mx.new1 {w : World} {G : EnV} {b : Vl.Env} (h : EnIn w (fun _ => False) G b) : Mx w ((w.alloc (.cells #[.int .u8 0, .int .u8 0, .int .u8 0, .int .u8 0, .int .u8 0, .int .u8 0, .int .u8 0, .int .u8 0, .int .u8 0, .int .u8 0, .int .u8 0, .int .u8 0, .int .u8 0, .int .u8 0, .int .u8 0, .int .u8 0] 5)).alloc (.cells #[.slice (some ⟨w.heap.size, 0, none⟩) 16 16, .int .u64 G.r0, .int .u64 G.r1, .int .u64 G.r2, .int .u64 G.r3, .int .u64 G.r4, .int .u64 G.r5, .int .u64 G.r6, .int .u64 G.r7, .slice G.A2 G.n2 G.c2] 43)).drew w.heap.size (w.heap.size + 1) ⟨List.replicate 16 0, b.regs, b.mem⟩ :=
  ⟨by omega, Nat.le_refl _, Nat.le_succ _, ((Below.box _ _).trans ((Below.box _ _).mono (by simp))).drew, ⟨_, heap_alloc2_old w _ _, rfl, zeros_at⟩, _, G.A2, G.n2, G.c2, heap_alloc2_new w _ _, rfl, rfl, cells_at h.regs, rfl, h.mem.r⟩
theorem Mx.new2 {w : World} {G : EnV} {b : Vl.Env} (h : EnIn w (fun _ => False) G b) : Mx w ((w.alloc (.cells #[.slice (some ⟨w.heap.size + 1, 0, none⟩) 16 16, .int .u64 G.r0, .int .u64 G.r1, .int .u64 G.r2, .int .u64 G.r3, .int .u64 G.r4, .int .u64 G.r5, .int .u64 G.r6, .int .u64 G.r7, .slice G.A2 G.n2 G.c2] 43)).alloc (.cells #[.int .u8 0, .int .u8 0, .int .u8 0, .int .u8 0, .int .u8 0, .int .u8 0, .int .u8 0, .int .u8 0, .int .u8 0, .int .u8 0, .int .u8 0, .int .u8 0, .int .u8 0, .int .u8 0, .int .u8 0, .int .u8 0] 5)).drew (w.heap.size + 1) w.heap.size ⟨List.replicate 16 0, b.regs, b.mem⟩ :=
  ⟨by omega, Nat.le_succ _, Nat.le_refl _, ((Below.box _ _).trans ((Below.box _ _).mono (by simp))).drew, ⟨_, heap_alloc2_new w _ _, rfl, zeros_at⟩, _, G.A2, G.n2, G.c2, heap_alloc2_old w _ _, rfl, rfl, cells_at h.regs, rfl, h.mem.r⟩
theorem at_back (A : Option Addr) (len cap : Nat) (l : List Int) (k : Nat) (w : World) (h : BtR w A len cap l) :
    Calls Try.prog 34 #[.slice A len cap, .int .u64 k] w fun e w' => e = .returned (.int .u8 (Vl.att l k)) ∧ w' = w :=
  (at_any A len cap l k w h).mono fun _ _ h => ⟨h.1, h.2.symm⟩
theorem EnB.reg {w : World} {g i : Nat} {E : EnV} {l : List Int} (h : EnB w g E) (hl : l = [E.r0, E.r1, E.r2, E.r3, E.r4, E.r5, E.r6, E.r7]) (hi : i < 8) : w.cell? ⟨g, 1 + i, none⟩ = some (.int .u64 (Vl.att l i)) := by
  rw [Blk.c h, Vl.att, Int.toNat_natCast]
  subst hl
  rcases (show i = 0 ∨ i = 1 ∨ i = 2 ∨ i = 3 ∨ i = 4 ∨ i = 5 ∨ i = 6 ∨ i = 7 by omega) with rfl | rfl | rfl | rfl | rfl | rfl | rfl | rfl <;> rfl
theorem Vl.mix1 {a M0 : Vl.Env} {X : List Tm.Nd} {k n : Nat} (h : (X.getD k Tm.z).op = 1) (hn : (X.getD k Tm.z).n = n) : Vl.mix a M0 X (k + 1) = ⟨(Vl.mix a M0 X k).inp.set n (Vl.att a.inp n), (Vl.mix a M0 X k).regs, (Vl.mix a M0 X k).mem⟩ := by
  rw [Vl.mix, Vl.mixS, if_pos h, hn, Int.toNat_natCast]
theorem Vl.mix2 {a M0 : Vl.Env} {X : List Tm.Nd} {k n : Nat} (h : (X.getD k Tm.z).op = 2) (hn : (X.getD k Tm.z).n = n) : Vl.mix a M0 X (k + 1) = ⟨(Vl.mix a M0 X k).inp, (Vl.mix a M0 X k).regs.set n (Vl.att a.regs n), (Vl.mix a M0 X k).mem⟩ := by
  rw [Vl.mix, Vl.mixS, if_neg (by omega), if_pos h, hn, Int.toNat_natCast]
theorem Vl.mix3 {a M0 : Vl.Env} {X : List Tm.Nd} {k : Nat} (h : (X.getD k Tm.z).op = 3) : Vl.mix a M0 X (k + 1) = ⟨(Vl.mix a M0 X k).inp, (Vl.mix a M0 X k).regs, a.mem⟩ := by
  rw [Vl.mix, Vl.mixS, if_neg (by omega), if_neg (by omega), if_pos h]
theorem Vl.mix4 {a M0 : Vl.Env} {X : List Tm.Nd} {k : Nat} (h1 : (X.getD k Tm.z).op ≠ 1) (h2 : (X.getD k Tm.z).op ≠ 2) (h3 : (X.getD k Tm.z).op ≠ 3) : Vl.mix a M0 X (k + 1) = Vl.mix a M0 X k := by
  rw [Vl.mix, Vl.mixS, if_neg h1, if_neg h2, if_neg h3]
theorem Vl.mix0_ok {a b : Vl.Env} (hb : b.Ok) : Vl.MOk a (Vl.mix0 b) := by
  refine ⟨by simp [Vl.mix0], ⟨fun j => ?_, hb.regs, hb.mem, hb.len⟩⟩
  show 0 ≤ ((List.range 16).map fun (i : Nat) => Vl.att b.inp i).getD j 0 ∧ ((List.range 16).map fun (i : Nat) => Vl.att b.inp i).getD j 0 < 256
  by_cases hj : j < 16
  · have e : ((List.range 16).map fun (i : Nat) => Vl.att b.inp i).getD j 0 = b.inp.getD j 0 := by
      rw [List.getD_eq_getElem?_getD, List.getElem?_map, List.getElem?_range hj]
      simp [Vl.att]
    rw [e]; exact hb.inp j
  · have e : ((List.range 16).map fun (i : Nat) => Vl.att b.inp i).getD j 0 = 0 := by
      rw [List.getD_eq_getElem?_getD, List.getElem?_eq_none (by simp; omega)]; rfl
    rw [e]; omega
end Go.Proofs.Ytdbcpnpcnkccaaa
namespace Go.Proofs.Ytdbcpnpcnkccaaa
set_option maxRecDepth 100000
open Go.RowKit Go.Maps

set_option maxHeartbeats 16000000 in
theorem leaves_walk (A0 : Option Addr) (len cap : Nat) (L : List Tm.Nd) (E G : EnV) (a b : Vl.Env) (w : World) (hx : NdSl w A0 len cap L) (hE : EnIn w (fun _ => False) E a) (hG : EnIn w (fun _ => False) G b) :
    Calls Try.prog 7 #[.slice A0 len cap, E.v, G.v] w fun en w' => en = .returned (.bool true) ∧ Below w.heap.size w w' := by
  have HX := Lib.hid hx
  have HE := Lib.hid hE
  have HG := Lib.hid hG
  have HB0 := Lib.hid (Eb2.new w E G)
  clear hx hE hG
  rw [env_v, env_g]
  go_enter Try.func7, Try.ntmps7
  go_wp2_with fail
  generalize (w.alloc (.cells #[.slice E.A1 E.n1 E.c1, .int .u64 E.r0, .int .u64 E.r1, .int .u64 E.r2, .int .u64 E.r3, .int .u64 E.r4, .int .u64 E.r5, .int .u64 E.r6, .int .u64 E.r7, .slice E.A2 E.n2 E.c2] 43)).alloc (.cells #[.slice G.A1 G.n1 G.c1, .int .u64 G.r0, .int .u64 G.r1, .int .u64 G.r2, .int .u64 G.r3, .int .u64 G.r4, .int .u64 G.r5, .int .u64 G.r6, .int .u64 G.r7, .slice G.A2 G.n2 G.c2] 43) = W1 at *
  refine Calls.mono (vawake_any W1) ?_
  rintro en w1 ⟨rfl, hb⟩
  have HB1 := Lib.hid (HB0.out.next hb)
  clear hb HB0
  obtain ⟨f0, f1, f2, f3, f4, f5, f6, f7, f8, f9⟩ := HB1.out.e1.cells
  go_wp2_with fail
  clear f0 f1 f2 f3 f4 f5 f6 f7 f8 f9
  have hg := great_any A0 len cap E w1
  rw [env_v] at hg
  refine Calls.mono hg ?_
  rintro en w2 ⟨rfl, hb⟩
  have HB2 := Lib.hid (HB1.out.next hb)
  clear hb HB1 hg
  by_cases hgr : 300 < len ∨ 100 < E.n1 ∨ 300 < E.n2
  · rw [decide_eq_true hgr]
    clear hgr
    go_wp2_with fail
    go_ret
    exact ⟨rfl, HB2.out.bel⟩
  rw [decide_eq_false hgr]
  have HL := Lib.hid (show len ≤ 300 by omega)
  clear hgr
  obtain ⟨f0, f1, f2, f3, f4, f5, f6, f7, f8, f9⟩ := HB2.out.e2.cells
  go_wp2_with fail
  clear f0 f1 f2 f3 f4 f5 f6 f7 f8 f9
  have hg := great_any A0 len cap G w2
  rw [env_g] at hg
  refine Calls.mono hg ?_
  rintro en w3 ⟨rfl, hb⟩
  have HB3 := Lib.hid (HB2.out.next hb)
  clear hb HB2 hg
  by_cases hgr : 300 < len ∨ 100 < G.n1 ∨ 300 < G.n2
  · rw [decide_eq_true hgr]
    clear hgr
    go_wp2_with fail
    go_ret
    exact ⟨rfl, HB3.out.bel⟩
  rw [decide_eq_false hgr]
  clear hgr
  go_wp2_with fail
  refine Calls.mono (small_any A0 len cap L 300 w3 (HX.out.below HB3.out.bel) (fun _ => by have := HL.out; omega)) ?_
  rintro en w4 ⟨rfl, hb⟩
  have HB4 := Lib.hid (HB3.out.next hb)
  clear hb HB3
  rw [decide_eq_true (show (len : Int) ≤ 300 by have := HL.out; omega), Bool.true_and]
  by_cases hc : (Tm.chk L).1 = 0
  · rw [decide_eq_true hc]
    obtain ⟨h0, hok⟩ := HX.out.pos hc
    have HC := Lib.hid hc
    have HOK := Lib.hid hok
    obtain ⟨p, hp⟩ : ∃ p, len - 1 = p := ⟨_, rfl⟩
    have hpl : (len : Int) - 1 = (p : Int) := by omega
    have hp2 : (p : Int) < len := by omega
    have HP := Lib.hid (show p < len by omega)
    have HPE := Lib.hid hp
    obtain ⟨bx, ox, rfl, hbx, hxx⟩ := (HX.out.below HB4.out.bel).nd.mem h0
    obtain ⟨x0, x1, -⟩ := hxx p HP.out
    have hl3 : (len : Int) ≤ 300 := by have := HL.out; omega
    clear hxx hok hp hc
    by_cases hw : (L.getD p Tm.z).w = 0
    · rw [hw] at x1
      clear hw
      go_wp2_with fail
      go_ret
      exact ⟨rfl, HB4.out.bel⟩
    · have hwb : ((L.getD p Tm.z).w == 0) = false := beq_eq_false_iff_ne.2 hw
      obtain ⟨ww, hww⟩ : ∃ ww, (L.getD p Tm.z).w = ww := ⟨_, rfl⟩
      have HW := Lib.hid hw
      rw [hww] at hwb x1
      clear hw hww
      obtain ⟨f0, f1, f2, f3, f4, f5, f6, f7, f8, f9⟩ := HB4.out.e2.cells
      have hmk : ∀ W : World, (Instr.makeSlice 40 (.int .i64 16) (.int .i64 16)).run Try.prog W = .ok (.slice (some ⟨W.heap.size, 0, none⟩) 16 16) (W.alloc (.cells #[.int .u8 0, .int .u8 0, .int .u8 0, .int .u8 0, .int .u8 0, .int .u8 0, .int .u8 0, .int .u8 0, .int .u8 0, .int .u8 0, .int .u8 0, .int .u8 0, .int .u8 0, .int .u8 0, .int .u8 0, .int .u8 0] 5)) := fun _ => by kernel_rfl
      go_wp2_with fail
      go_cut [7] from 39 (fun s7 wx => ∃ ib mb, s7 = .pointer (some ⟨mb, 0, none⟩) ∧ ∃ M : Vl.Env, Mx w4 wx ib mb M ∧ M.inp.length = 16 ∧ M.regs = b.regs ∧ M.mem = b.mem)
      case first =>
        have hs1 : w.heap.size + 1 < w4.heap.size := HB4.out.e2.lt
        have hs2 : w.heap.size + 1 < w4.heap.size + 1 := by omega
        have hs3 : w.heap.size + 1 < w4.heap.size + 1 + 1 := by omega
        have hs4 : w.heap.size + 1 ≠ w4.heap.size := by omega
        have hs5 : w.heap.size + 1 ≠ w4.heap.size + 1 := by omega
        go_region
        all_goals go_wp2_with fail
        all_goals go_meet
        case rel => first | exact ⟨_, _, rfl, _, Mx.new1 (HG.out.keep (Keep.of_below HB4.out.bel)), by simp, rfl, rfl⟩ | exact ⟨_, _, rfl, _, Mx.new2 (HG.out.keep (Keep.of_below HB4.out.bel)), by simp, rfl, rfl⟩
        case rel => first | exact ⟨_, _, rfl, _, Mx.new1 (HG.out.keep (Keep.of_below HB4.out.bel)), by simp, rfl, rfl⟩ | exact ⟨_, _, rfl, _, Mx.new2 (HG.out.keep (Keep.of_below HB4.out.bel)), by simp, rfl, rfl⟩
      case rest =>
        obtain ⟨ib, mb, rfl, M, hM, hl, hr, hm⟩ := hcut
        have HM := Lib.hid hM
        have HMl := Lib.hid hl
        have HMr := Lib.hid hr
        have HMm := Lib.hid hm
        clear hM hl hr hm f0 f1 f2 f3 f4 f5 f6 f7 f8 f9 hmk
        go_wp2_with fail
        go_loopw [8] (fun t wr => ∃ (k : Nat) (M : Vl.Env), k ≤ 16 ∧ t = .int .i64 k ∧ Mx w4 wr ib mb M ∧ M.inp.length = 16 ∧ (∀ j : Nat, j < k → M.inp.getD j 0 = Vl.att b.inp j) ∧ M.regs = b.regs ∧ M.mem = b.mem) (fun t _ => 16 - (intOf t).toNat)
        case atStart => exact ⟨0, M, by omega, rfl, HM.out, HMl.out, fun j hj => absurd hj (by omega), HMr.out, HMm.out⟩
        case round =>
          clear HM HMl HMr HMm
          obtain ⟨k, M, hk, rfl, hM, hl, hi, hr, hm⟩ := hrel
          by_cases hlt : k < 16
          · have hk1 : (k : Int) < 16 := by omega
            have hk0 : (0 : Int) ≤ k := by omega
            have hku : IntKind.u64.wrap (k : Int) = k := by rw [IntKind.wrap_u64]; omega
            have g0 : wr.drew.cell? ⟨mb, 0, none⟩ = some (.slice (some ⟨ib, 0, none⟩) 16 16) := by
              obtain ⟨cs, A2, n2, c2, q, _, q0, _⟩ := hM.bm
              exact (Blk.c (w := wr.drew) q 0).trans q0
            have hbw : Below w.heap.size w wr := HB4.out.bel.trans (hM.bel.mono HB4.out.bel.size)
            have g1 : wr.drew.cell? ⟨w.heap.size + 1, 0, none⟩ = some (.slice G.A1 G.n1 G.c1) := (Blk.c (w := wr.drew) ((hM.bel.block _ HB4.out.e2.lt).trans HB4.out.e2) 0).trans rfl
            have hat := at_back G.A1 G.n1 G.c1 b.inp k wr.drew (HG.out.inp.r.below hbw.drew)
            have g2 : ∃ v, wr.drew.cell? ⟨ib, k, none⟩ = some v := by
              obtain ⟨cb, q, _, q0⟩ := hM.bi
              exact ⟨_, (Blk.c (w := wr.drew) q k).trans (q0 k hlt)⟩
            obtain ⟨v2, g2⟩ := g2
            have g3 : wr.drew.frozen? ⟨ib, k, none⟩ = false := by
              obtain ⟨cb, q, _⟩ := hM.bi
              exact Blk.fr (w := wr.drew) q k
            have HM := Lib.hid hM
            have HMl := Lib.hid hl
            have HMi := Lib.hid hi
            have HMr := Lib.hid hr
            have HMm := Lib.hid hm
            clear hM hl hi hr hm hbw
            go_wp2_with fail
            refine still_tail 9 (by kernel_rfl) (by kernel_rfl) ?_
            simp only [List.take_succ_cons, List.take_zero, List.drop_succ_cons, List.drop_zero]
            still_step
            still_step
            still_step
            still_step
            still_step
            still_step
            still_step
            still_call hat
            still_step
            refine wpStill_nil ?_
            go_wp2_with fail
            have hM := (HM.out.drew).setI (i := k) (x := Vl.att b.inp k) hlt HMl.out
            go_roundw
            case rel =>
              refine ⟨k + 1, _, by omega, by go_num, hM, by simp [HMl.out], fun j hj => ?_, HMr.out, HMm.out⟩
              show (M.inp.set k _).getD j 0 = _
              rw [Vl.getD_set (by have := HMl.out; omega)]
              split
              · rename_i e; rw [e]
              · exact HMi.out j (by omega)
            case measure => simp [intOf]; omega
          · have hke : k = 16 := by omega
            subst hke
            rw [show ((16 : Nat) : Int) = 16 from rfl]
            have hM0 := mix0_of hl hi hr hm
            subst hM0
            have HM := Lib.hid hM
            clear hM hl hi hr hm
            go_wp2_with fail
            have HOKM := Lib.hid (Vl.mix_ok (b := b) HOK.out (fun i => HX.out.u i) HE.out.ok (Vl.mix0_ok HG.out.ok))
            go_loopw [9] (fun t wr => ∃ k : Nat, k ≤ len ∧ t = .int .i64 k ∧ Mx w4 wr ib mb (Vl.mix a (Vl.mix0 b) L k)) (fun t _ => len - (intOf t).toNat)
            case atStart => exact ⟨0, by omega, rfl, HM.out⟩
            case round =>
              clear HM
              obtain ⟨k, hk, rfl, hM⟩ := hrel
              by_cases hlt : k < len
              · have hk1 : (k : Int) < len := by omega
                have hk0 : (0 : Int) ≤ k := by omega
                have hbw : Below w.heap.size w wr := HB4.out.bel.trans (hM.bel.mono HB4.out.bel.size)
                have hMk := (HOKM.out k hk).1
                obtain ⟨n1, n2⟩ := Vl.leaf_n HOK.out (fun i => HX.out.u i) hlt
                obtain ⟨_, _, e1, _, hx⟩ := (HX.out.below hbw).nd.mem h0
                obtain ⟨rfl, rfl⟩ : _ = bx ∧ _ = ox := by injection e1 with e1; injection e1 with e1 e2; exact ⟨e1.symm, e2.symm⟩
                obtain ⟨y0, _, y2, _⟩ := hx k hlt
                have z2 : wr.drew.cell? ⟨_, _ + k * 6 + 2, none⟩ = _ := y2
                have hMB := Lib.hid hMk
                have hE1 : EnB wr w.heap.size E := (hM.bel.block _ HB4.out.e1.lt).trans HB4.out.e1
                obtain ⟨cs, A2, m2, c2, q, _, q0, _⟩ := hM.bm
                have g0 : wr.drew.cell? ⟨mb, 0, none⟩ = some (.slice (some ⟨ib, 0, none⟩) 16 16) := (Blk.c (w := wr.drew) q 0).trans q0
                have HQ := Lib.hid q
                clear q q0
                by_cases c1 : (L.getD k Tm.z).op = 1
                · have hn := n1 c1
                  obtain ⟨n, hnn⟩ := Int.eq_ofNat_of_zero_le hn.1
                  rw [hnn] at z2 hn
                  rw [c1] at y0
                  have hn0 := hn.1
                  have hn16 := hn.2
                  have g1 : wr.drew.cell? ⟨w.heap.size, 0, none⟩ = some (.slice E.A1 E.n1 E.c1) := (Blk.c (w := wr.drew) hE1 0).trans rfl
                  have hat := at_back E.A1 E.n1 E.c1 a.inp n wr.drew (HE.out.inp.r.below hbw.drew)
                  have g2 : ∃ v, wr.drew.cell? ⟨ib, n, none⟩ = some v := by
                    obtain ⟨cb, q, _, q0⟩ := hM.bi
                    exact ⟨_, (Blk.c (w := wr.drew) q n).trans (q0 n (by omega))⟩
                  obtain ⟨v2, g2⟩ := g2
                  have g3 : wr.drew.frozen? ⟨ib, n, none⟩ = false := by
                    obtain ⟨cb, q, _⟩ := hM.bi
                    exact Blk.fr (w := wr.drew) q n
                  have hM2 := (hM.drew).setI (i := n) (x := Vl.att a.inp n) (by omega) hMk.inp
                  rw [← Vl.mix1 c1 hnn] at hM2
                  have HM2 := Lib.hid hM2
                  have HLT := Lib.hid hlt
                  clear hM hM2 hMk hE1 hx n1 n2 hbw
                  go_wp2_with fail
                  refine still_tail 16 (by kernel_rfl) (by kernel_rfl) ?_
                  simp only [List.take_succ_cons, List.take_zero, List.drop_succ_cons, List.drop_zero]
                  still_step
                  still_step
                  still_step
                  still_step
                  still_step
                  still_step
                  still_step
                  still_step
                  still_step
                  still_step
                  still_step
                  still_step
                  still_step
                  still_step
                  still_call hat
                  still_step
                  refine wpStill_nil ?_
                  go_wp2_with fail
                  go_roundw
                  case rel => exact ⟨k + 1, by have := HLT.out; omega, by go_num, HM2.out⟩
                  case measure => simp [intOf]; omega
                by_cases c2 : (L.getD k Tm.z).op = 2
                · have hn := n2 c2
                  obtain ⟨n, hnn⟩ := Int.eq_ofNat_of_zero_le hn.1
                  rw [hnn] at z2 hn
                  rw [c2] at y0
                  have hn0 := hn.1
                  have hn8 := hn.2
                  have g1 : wr.drew.cell? ⟨w.heap.size, 1 + n, none⟩ = some (.int .u64 (Vl.att a.regs n)) := EnB.reg (w := wr.drew) hE1 HE.out.regs (by omega)
                  have g2 : ∃ v, wr.drew.cell? ⟨mb, 1 + n, none⟩ = some v := by
                    obtain ⟨cs, A2, m2, c2, q, _, _, q0, _⟩ := hM.bm
                    exact ⟨_, (Blk.c (w := wr.drew) q (1 + n)).trans (q0 n (by omega))⟩
                  obtain ⟨v2, g2⟩ := g2
                  have g3 : wr.drew.frozen? ⟨mb, 1 + n, none⟩ = false := Blk.fr (w := wr.drew) HQ.out (1 + n)
                  have hM2 := (hM.drew).setR (i := n) (x := Vl.att a.regs n) (by omega) hMk.ok.len
                  rw [← Vl.mix2 c2 hnn] at hM2
                  have HM2 := Lib.hid hM2
                  have HLT := Lib.hid hlt
                  clear hM hM2 hMk hE1 hx n1 n2 hbw
                  go_wp2_with fail
                  refine still_tail 15 (by kernel_rfl) (by kernel_rfl) ?_
                  simp only [List.take_succ_cons, List.take_zero, List.drop_succ_cons, List.drop_zero]
                  repeat still_step
                  refine wpStill_nil ?_
                  go_wp2_with fail
                  go_roundw
                  case rel => exact ⟨k + 1, by have := HLT.out; omega, by go_num, HM2.out⟩
                  case measure => simp [intOf]; omega
                by_cases c3 : (L.getD k Tm.z).op = 3
                · rw [c3] at y0
                  have g1 : wr.cell? ⟨w.heap.size, 9, none⟩ = some (.slice E.A2 E.n2 E.c2) := (Blk.c (w := wr) hE1 9).trans rfl
                  have g2 : ∃ v, wr.cell? ⟨mb, 9, none⟩ = some v := by
                    obtain ⟨cs, A2, m2, c2, q, _, _, _, q0, _⟩ := hM.bm
                    exact ⟨_, (Blk.c (w := wr) q 9).trans q0⟩
                  obtain ⟨v2, g2⟩ := g2
                  have g3 : wr.frozen? ⟨mb, 9, none⟩ = false := Blk.fr (w := wr) HQ.out 9
                  have hM2 := hM.setM (HE.out.mem.r.below HB4.out.bel)
                  rw [← Vl.mix3 c3] at hM2
                  have HM2 := Lib.hid hM2
                  have HLT := Lib.hid hlt
                  clear hM hM2 hMk hE1 hx n1 n2 hbw
                  go_wp2_with fail
                  go_roundw
                  case rel => exact ⟨k + 1, by have := HLT.out; omega, by go_num, HM2.out⟩
                  case measure => simp [intOf]; omega
                have d1 : ((L.getD k Tm.z).op == 1) = false := beq_eq_false_iff_ne.2 c1
                have d2 : ((L.getD k Tm.z).op == 2) = false := beq_eq_false_iff_ne.2 c2
                have d3 : ((L.getD k Tm.z).op == 3) = false := beq_eq_false_iff_ne.2 c3
                rw [← Vl.mix4 c1 c2 c3] at hM
                generalize (L.getD k Tm.z).op = op at y0 d1 d2 d3
                have HM2 := Lib.hid hM
                have HLT := Lib.hid hlt
                clear hM hMk hE1 hx n1 n2 hbw c1 c2 c3
                go_wp2_with fail
                go_roundw
                case rel => exact ⟨k + 1, by have := HLT.out; omega, by go_num, HM2.out⟩
                case measure => simp [intOf]; omega
              · have hke : len = k := by omega
                subst hke
                have hMk := HOKM.out len hk
                have hof : Vl.ofR L (Vl.mix a (Vl.mix0 b) L len) = Vl.ofR L a := Vl.ofR_env (by rw [HX.out.hlen]; exact hMk.2)
                have hr0 : (Vl.ofR L a).2 = 0 := by
                  rw [Vl.ofR, if_neg (by simpa using HC.out), HX.out.hlen, if_neg (by rw [HPE.out]; exact HW.out)]
                obtain ⟨E2, hE2, hI2⟩ := hM.env hMk.1.ok hMk.1.inp
                have hE1 : EnB wr w.heap.size E := (hM.bel.block _ HB4.out.e1.lt).trans HB4.out.e1
                have hbw : Below w.heap.size w wr := HB4.out.bel.trans (hM.bel.mono HB4.out.bel.size)
                have hv1 := vof_any _ len cap L E a wr (HX.out.below hbw) (HE.out.keep (Keep.of_below hbw)) (by have := HL.out; omega)
                rw [env_v, hr0] at hv1
                obtain ⟨f0, f1, f2, f3, f4, f5, f6, f7, f8, f9⟩ := EnB.cells hE1
                have HR := Lib.hid hr0
                have HOF := Lib.hid hof
                have HE2 := Lib.hid hE2
                have HI2 := Lib.hid hI2
                have HBW := Lib.hid hbw
                have HV := Lib.hid hv1
                clear hM hMk hof hr0 hE2 hI2 hE1 hbw hv1
                go_wp2_with fail
                refine Calls.mono HV.out ?_
                rintro en w5 ⟨rfl, hb5⟩
                clear f0 f1 f2 f3 f4 f5 f6 f7 f8 f9
                obtain ⟨g0, g1, g2, g3, g4, g5, g6, g7, g8, g9⟩ := EnB.cells ((hb5.block _ HE2.out.lt).trans HE2.out)
                have hv2 := vof_any _ len cap L E2 _ w5 (HX.out.below (HBW.out.trans (hb5.mono HBW.out.size))) (HI2.out.keep (Keep.of_below hb5)) (by have := HL.out; omega)
                rw [env_v, HOF.out, HR.out] at hv2
                have HV2 := Lib.hid hv2
                have HB5 := Lib.hid hb5
                clear hb5 hv2
                generalize (Vl.ofR L a).1 = val at *
                have hvv : (val == val) = true := beq_self_eq_true _
                go_wp2_with fail
                refine Calls.mono HV2.out ?_
                rintro en w6 ⟨rfl, hb6⟩
                have HB6 := Lib.hid (HBW.out.trans ((HB5.out.trans (hb6.mono HB5.out.size)).mono HBW.out.size))
                clear hb6 g0 g1 g2 g3 g4 g5 g6 g7 g8 g9
                go_wp2_with fail
                go_ret
                exact ⟨rfl, HB6.out⟩
  · rw [decide_eq_false hc]
    clear hc
    go_wp2_with fail
    go_ret
    exact ⟨rfl, HB4.out.bel⟩
end Go.Proofs.Ytdbcpnpcnkccaaa
