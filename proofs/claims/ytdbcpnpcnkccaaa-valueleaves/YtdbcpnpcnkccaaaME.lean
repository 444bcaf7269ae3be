/-
  The contract of Check.
  The contract of the reference's Check.
  The arena in memory; contracts of New, Len, Asked, has, and of the counter.
  Nodes that come in.
-/
import Derived.Test.YtdbcpnpcnkccaaaMB
import Derived.LoopTactic
import Derived.Test.YtdbcpnpcnkccaaaMD
import Derived.Maps.OwnSet
import Derived.Maps.AppendAt
import Derived.Laws.LoneSync
import Derived.Laws.OwnMore
import Derived.DeepKeys4
import Derived.OwnWalk
import Derived.Carry
import Derived.Lib.SmallJoins
import Derived.Deep.Slices
import Derived.ProofKit
import Derived.OpenShut
set_option linter.unusedSimpArgs false
set_option linter.unusedVariables false
namespace Go.Proofs.Ytdbcpnpcnkccaaa
open Go.RowKit

theorem still_tail {P : Program} {id : Nat} {Q : Exit → Act → World → Prop} {a : Act} {w : World} {l : List Oper} (n : Nat) (hm : P.follows .mixedOrders = true) (hB : Region.lexTailB .any l.toArray n = true)
    (h : wpStill P l.toArray w.drew (fun a' => wpList P l.toArray Q (l.drop n) a' w.drew) (l.take n) a) : (Code.region id l.toArray true).wp P Q a w := wp_region_still_tail n hm hB h
theorem ret_two {k l : IntKind} {a b c d : Int} (h : a = c) (h' : b = d) : Ending.returned (.tuple #[.int k a, .int l b]) = .returned (.tuple #[.int k c, .int l d]) := by rw [h, h']

/-- The first k nodes are right. -/
def Tm.Ok (X : List Tm.Nd) (k : Nat) : Prop := ∀ j, j < k → Tm.fltAt X j = 0
theorem Tm.Ok.succ {X : List Tm.Nd} {k : Nat} (h : Tm.Ok X k) (hk : Tm.fltAt X k = 0) : Tm.Ok X (k + 1) := fun j hj => by
  rcases Nat.lt_succ_iff_lt_or_eq.1 hj with h1 | h1
  · exact h j h1
  · rw [h1]; exact hk
/-- Numbers of 64 bits. -/
def Tm.U64 (n : Int) : Prop := 0 ≤ n ∧ n < 18446744073709551616
theorem NdR.cut {w : World} {A : Option Addr} {len cap k : Nat} {X : List Tm.Nd} (h : NdR w A len cap X) (hk : k ≤ len) (hA : A ≠ none) : NdR w A k cap X :=
  ⟨Nat.le_trans hk h.hle, h.hcap, fun e => absurd e hA, fun h0 => by
    obtain ⟨b, o, e, hlt, hx⟩ := h.mem (by omega)
    exact ⟨b, o, e, hlt, fun i hi => hx i (by omega)⟩⟩

set_option maxRecDepth 20000 in
set_option maxHeartbeats 2000000 in
theorem check_any (A : Option Addr) (len cap : Nat) (X : List Tm.Nd) (w : World) (h : NdR w A len cap X) (hl : X.length = len) (hr : ∀ i, Tm.U64 (X.getD i Tm.z).n) (hm : len ≤ 65536) :
    Calls Try.prog 17 #[.slice A len cap] w fun e w' => e = .returned (.tuple #[.int .i64 (Tm.chk X).1, .int .i64 (Tm.chk X).2]) ∧ Below w.heap.size w w' := by
  have hcl := h.hle
  have hcm := h.hcap
  unfold maxLen at hcm
  by_cases h0 : len = 0
  · subst h0
    have e1 : Tm.chk X = (11, 0) := Tm.chk_nil hl
    rw [e1]
    clear e1 hl hr h
    go_enter Try.func17, Try.ntmps17
    go_wp2
    go_ret2
    exact ⟨rfl, Below.refl _ _⟩
  · obtain ⟨b, o, rfl, hb, hx⟩ := h.mem (by omega)
    have HX := Lib.hid h
    have HL := Lib.hid hl
    have HR := Lib.hid hr
    have HN := Lib.hid hx
    have h0' : ((len : Int) == 0) = false := by simp; omega
    have hmm : min (len : Int) 65536 = len := by omega
    clear h hl hr hx
    go_enter Try.func17, Try.ntmps17
    go_wp2
    clear hmm
    go_loopw [16] (fun t wr => ∃ k : Nat, k ≤ len ∧ t = .int .i64 k ∧ Below w.heap.size w wr ∧ Tm.Ok X k) (fun t _ => len - (intOf t).toNat)
    case atStart => exact ⟨0, Nat.zero_le _, rfl, Below.refl _ _, fun j hj => absurd hj (by omega)⟩
    case round =>
      obtain ⟨k, hk, rfl, hbw, hok⟩ := hrel
      have HBW := Lib.hid hbw
      have HOK := Lib.hid hok
      have hbr : b < wr.heap.size := Nat.lt_of_lt_of_le hb hbw.size
      by_cases hlt : k < len
      · obtain ⟨c0, c1, c2, c3, c4, c5⟩ := (HN.out k hlt).keep (fun o => hbw.cell (p := ⟨b, o, none⟩) hb)
        have hnr := HR.out k
        obtain ⟨nd, hnd⟩ : ∃ nd, X.getD k Tm.z = nd := ⟨_, rfl⟩
        rw [hnd] at c0 c1 c2 c3 c4 c5 hnr
        have HND := Lib.hid hnd
        clear hbw hok hnd
        obtain ⟨op, v, n, x, y, u⟩ := nd
        dsimp only at c0 c1 c2 c3 c4 c5 hnr
        have hB1 : Below w.heap.size w (wr.alloc (.cells #[.int .i64 op, .int .i64 v, .int .u64 n, .int .i64 x, .int .i64 y, .int .i64 u] 36)).drew := (HBW.out.alloc HBW.out.size _).drew
        have HB1 := Lib.hid hB1
        have HF := Lib.hid (fault_any op v n x y u (some ⟨b, o, none⟩) k cap X _ ((HX.out.below hB1).cut hk (by simp)) hnr.1 hnr.2)
        have hkc : k ≤ cap := by omega
        have hkc' : (k : Int) ≤ cap := by omega
        have hk0 : (0 : Int) ≤ k := by omega
        clear hnr hB1
        go_wp2_with fail
        refine still_tail 4 (by kernel_rfl) (by kernel_rfl) ?_
        simp only [List.take_succ_cons, List.take_zero, List.drop_succ_cons, List.drop_zero]
        repeat still_step
        refine wpStill_nil ?_
        go_wp2_with fail
        refine HF.out.mono ?_
        rintro e v1 ⟨rfl, hb1⟩
        have HV := Lib.hid (HB1.out.trans (hb1.mono HB1.out.size))
        clear hb1
        have hfe : Tm.flt ⟨op, v, n, x, y, u⟩ k X = Tm.fltAt X k := by rw [Tm.fltAt, HND.out]
        by_cases hf : Tm.fltAt X k = 0
        · have HF0 := Lib.hid hf
          rw [hfe, hf]
          clear hf hfe
          go_wp2
          go_roundw
          case rel => exact ⟨k + 1, by omega, by go_num, HV.out, HOK.out.succ HF0.out⟩
          case measure => simp [intOf]; omega
        · have HF0 := Lib.hid hf
          have hf' : (Tm.fltAt X k != 0) = true := by simpa using hf
          have HC := Lib.hid (Tm.chk_bad (by have := HL.out; omega) hf HOK.out)
          rw [hfe]
          clear hf hfe
          generalize Tm.fltAt X k = E at hf' HC ⊢
          go_wp2
          go_ret2
          exact ⟨ret_two (by rw [HC.out]) (by rw [HC.out]), HV.out⟩
      · have hke : k = len := by omega
        subst hke
        have HC := Lib.hid (Tm.chk_ok (by have := HL.out; omega) (fun j hj => HOK.out j (by have := HL.out; omega)))
        have hmm' : ¬ (65536 : Int) < k := by omega
        clear hbw hok
        go_wp2
        go_ret2
        exact ⟨ret_two (by rw [HC.out]) (by rw [HC.out]), HBW.out⟩
end Go.Proofs.Ytdbcpnpcnkccaaa
namespace Go.Proofs.Ytdbcpnpcnkccaaa
open Go.RowKit

theorem Tm.flt_zero {nd : Tm.Nd} {len : Nat} {X : List Tm.Nd} (h : Tm.flt nd len X = 0) : 0 ≤ nd.op ∧ nd.op ≤ 24 ∧ Tm.kok nd len = true ∧ Tm.wok nd.op nd.w (Tm.w0 nd X) (Tm.w1 nd X) (Tm.w2 nd X) = true ∧ Tm.nok nd.op nd.w nd.n = true := by
  unfold Tm.flt at h
  split at h
  · cases h
  · split at h
    · cases h
    · split at h
      · cases h
      · split at h
        · cases h
        · rename_i a b c d
          exact ⟨by omega, by omega, by simpa using b, by simpa using c, by simpa using d⟩
theorem Tm.kok_in {nd : Tm.Nd} {len : Nat} (h : Tm.kok nd len = true) : (1 ≤ Tm.kidn nd.op → 0 ≤ nd.a ∧ nd.a < len) ∧ (2 ≤ Tm.kidn nd.op → 0 ≤ nd.b ∧ nd.b < len) ∧ (3 ≤ Tm.kidn nd.op → 0 ≤ nd.c ∧ nd.c < len) := by
  unfold Tm.kok at h
  simp only [Bool.and_eq_true] at h
  exact ⟨fun k => Tm.inn_iff.1 (by simpa [k] using h.1), fun k => Tm.inn_iff.1 (by simpa [k] using h.2.1), fun k => Tm.inn_iff.1 (by simpa [k] using h.2.2)⟩
theorem Tm.wok_nn {op w x y v : Int} (hx : 0 ≤ x) (hy : 0 ≤ y) (h : Tm.wok op w x y v = true) : 0 ≤ w := by
  have := (Tm.wok_ref hx hy).1 h
  omega
theorem Tm.Ok.nn {X : List Tm.Nd} {k : Nat} (h : Tm.Ok X k) : ∀ j, j < k → 0 ≤ (X.getD j Tm.z).w := by
  intro j
  induction j using Nat.strongRecOn with
  | ind j ih =>
    intro hj
    obtain ⟨_, _, hk, hw, _⟩ := Tm.flt_zero (h j hj)
    obtain ⟨i0, i1, _⟩ := Tm.kok_in hk
    refine Tm.wok_nn ?_ ?_ hw
    · unfold Tm.w0
      split
      · rename_i c
        obtain ⟨p, q⟩ := i0 c
        exact ih _ (by omega) (by omega)
      · exact Int.le_refl 0
    · unfold Tm.w1
      split
      · rename_i c
        obtain ⟨p, q⟩ := i1 c
        exact ih _ (by omega) (by omega)
      · exact Int.le_refl 0

set_option maxRecDepth 20000 in
set_option maxHeartbeats 2000000 in
theorem rcheck_any (A : Option Addr) (len cap : Nat) (X : List Tm.Nd) (w : World) (h : NdR w A len cap X) (hl : X.length = len) (hr : ∀ i, Tm.U64 (X.getD i Tm.z).n) (hm : len ≤ 65536) :
    Calls Try.prog 37 #[.slice A len cap] w fun e w' => e = .returned (.tuple #[.int .i64 (Tm.chk X).1, .int .i64 (Tm.chk X).2]) ∧ Below w.heap.size w w' := by
  have hcl := h.hle
  have hcm := h.hcap
  unfold maxLen at hcm
  by_cases h0 : len = 0
  · subst h0
    have e1 : Tm.chk X = (11, 0) := Tm.chk_nil hl
    rw [e1]
    clear e1 hl hr h
    go_enter Try.func37, Try.ntmps37
    go_wp2
    go_ret2
    exact ⟨rfl, Below.refl _ _⟩
  · obtain ⟨b, o, rfl, hb, hx⟩ := h.mem (by omega)
    have HX := Lib.hid h
    have HL := Lib.hid hl
    have HR := Lib.hid hr
    have HN := Lib.hid hx
    have h0' : ((len : Int) == 0) = false := by simp; omega
    clear h hl hr hx
    go_enter Try.func37, Try.ntmps37
    go_wp2
    go_loopw [4] (fun t wr => ∃ k : Nat, k ≤ len ∧ t = .int .i64 k ∧ Below w.heap.size w wr ∧ Tm.Ok X k) (fun t _ => len - (intOf t).toNat)
    case atStart => exact ⟨0, Nat.zero_le _, rfl, Below.refl _ _, fun j hj => absurd hj (by omega)⟩
    case round =>
      obtain ⟨k, hk, rfl, hbw, hok⟩ := hrel
      have HBW := Lib.hid hbw
      have HOK := Lib.hid hok
      have hbr : b < wr.heap.size := Nat.lt_of_lt_of_le hb hbw.size
      by_cases hlt : k < len
      · obtain ⟨c0, c1, c2, c3, c4, c5⟩ := (HN.out k hlt).keep (fun o => hbw.cell (p := ⟨b, o, none⟩) hb)
        have hnr := HR.out k
        obtain ⟨nd, hnd⟩ : ∃ nd, X.getD k Tm.z = nd := ⟨_, rfl⟩
        rw [hnd] at c0 c1 c2 c3 c4 c5 hnr
        have HND := Lib.hid hnd
        clear hbw hok hnd
        obtain ⟨op, v, n, x, y, u⟩ := nd
        dsimp only at c0 c1 c2 c3 c4 c5 hnr
        have hB1 : Below w.heap.size w wr.drew := HBW.out.drew
        have HB1 := Lib.hid hB1
        have HF := Lib.hid (right_any op v n x y u (some ⟨b, o, none⟩) k cap X _ ((HX.out.below hB1).cut hk (by simp)) hnr.1 hnr.2 HOK.out.nn)
        have hkc : k ≤ cap := by omega
        have hkc' : (k : Int) ≤ cap := by omega
        have hkl' : (k : Int) < len := by omega
        have hk0 : (0 : Int) ≤ k := by omega
        have hk6 : ((k : Int) == 65536) = false := by simp; omega
        clear hnr hB1
        go_wp2_with fail
        refine still_tail 7 (by kernel_rfl) (by kernel_rfl) ?_
        simp only [List.take_succ_cons, List.take_zero, List.drop_succ_cons, List.drop_zero]
        repeat still_step
        refine wpStill_nil ?_
        go_wp2_with fail
        refine HF.out.mono ?_
        rintro e v1 ⟨rfl, hb1⟩
        have HV := Lib.hid (HB1.out.trans (hb1.mono HB1.out.size))
        clear hb1
        have hfe : Tm.flt ⟨op, v, n, x, y, u⟩ k X = Tm.fltAt X k := by rw [Tm.fltAt, HND.out]
        by_cases hf : Tm.fltAt X k = 0
        · have HF0 := Lib.hid hf
          rw [hfe, hf]
          clear hf hfe
          go_wp2
          go_roundw
          case rel => exact ⟨k + 1, by omega, by go_num, HV.out, HOK.out.succ HF0.out⟩
          case measure => simp [intOf]; omega
        · have HF0 := Lib.hid hf
          have hf' : (Tm.fltAt X k != 0) = true := by simpa using hf
          have HC := Lib.hid (Tm.chk_bad (by have := HL.out; omega) hf HOK.out)
          rw [hfe]
          clear hf hfe
          generalize Tm.fltAt X k = E at hf' HC ⊢
          go_wp2
          go_ret2
          exact ⟨ret_two (by rw [HC.out]) (by rw [HC.out]), HV.out⟩
      · have hke : k = len := by omega
        subst hke
        have HC := Lib.hid (Tm.chk_ok (by have := HL.out; omega) (fun j hj => HOK.out j (by have := HL.out; omega)))
        clear hbw hok
        go_wp2
        go_ret2
        exact ⟨ret_two (by rw [HC.out]) (by rw [HC.out]), HBW.out⟩
end Go.Proofs.Ytdbcpnpcnkccaaa
namespace Go.Proofs.Ytdbcpnpcnkccaaa
open Go.RowKit Go.Maps

/-- But for block g, and the blocks m and o, the world w' is as w was. -/
structure Fr (g : Nat) (m o : Option Nat) (w w' : World) : Prop where
  os : w'.os = w.os
  tape : w'.tape = w.tape
  output : w'.output = w.output
  size : w.heap.size ≤ w'.heap.size
  block : ∀ k, k < w.heap.size → k ≠ g → some k ≠ m → some k ≠ o → w'.heap[k]? = w.heap[k]?
theorem Fr.refl (g : Nat) (m o : Option Nat) (w : World) : Fr g m o w w := ⟨rfl, rfl, rfl, Nat.le_refl _, fun _ _ _ _ _ => rfl⟩
/-- Of a row that moves: it stays, or is new. -/
def Moves (n : Nat) (o o' : Option Nat) : Prop := o' = o ∨ ∃ k, n ≤ k ∧ o' = some k
theorem Moves.refl (n : Nat) (o : Option Nat) : Moves n o o := .inl rfl
theorem Moves.trans {n m : Nat} {o p q : Option Nat} (h : Moves n o p) (k : Moves m p q) (hm : n ≤ m) : Moves n o q := by
  rcases k with rfl | ⟨j, hj, rfl⟩
  · exact h
  · exact .inr ⟨j, Nat.le_trans hm hj, rfl⟩
theorem Fr.trans {g : Nat} {m o o' : Option Nat} {a b c : World} (h : Fr g m o a b) (k : Fr g m o' b c) (hm : Moves a.heap.size o o') : Fr g m o a c :=
  ⟨k.os.trans h.os, k.tape.trans h.tape, k.output.trans h.output, Nat.le_trans h.size k.size, fun i hi h1 h2 h3 =>
    (k.block i (Nat.lt_of_lt_of_le hi h.size) h1 h2 (by
      rcases hm with rfl | ⟨j, hj, rfl⟩
      · exact h3
      · intro e; injection e with e; omega)).trans (h.block i hi h1 h2 h3)⟩
theorem Fr.of_below {g : Nat} {m o : Option Nat} {w w' : World} (h : Below w.heap.size w w') : Fr g m o w w' := ⟨h.os, h.tape, h.output, h.size, fun k hk _ _ _ => h.block k hk⟩
theorem Fr.below {g : Nat} {m o : Option Nat} {a b c : World} (h : Fr g m o a b) (k : Below b.heap.size b c) : Fr g m o a c := h.trans (Fr.of_below k) (.inl rfl)
theorem Fr.set {g : Nat} {m o : Option Nat} {a w : World} (h : Fr g m o a w) (i : Nat) (v : Value) : Fr g m o a (w.setCell ⟨g, i, none⟩ v) :=
  ⟨h.os, h.tape, h.output, by simpa using h.size, fun k hk hn h2 h3 => (Below.heap_setCell _ _ _ _ hn).trans (h.block k hk hn h2 h3)⟩
theorem Fr.drew {g : Nat} {m o : Option Nat} {a w : World} (h : Fr g m o a w) : Fr g m o a w.drew := ⟨h.os, h.tape, h.output, h.size, h.block⟩
theorem Fr.drewN {g : Nat} {m o : Option Nat} {a w : World} (h : Fr g m o a w) (n : Nat) : Fr g m o a (w.drewN n) := ⟨h.os, h.tape, h.output, h.size, h.block⟩

/-- A node as a value, and its cells. -/
abbrev ndv (n : Tm.Nd) : Value := .agg #[.int .i64 n.op, .int .i64 n.w, .int .u64 n.n, .int .i64 n.a, .int .i64 n.b, .int .i64 n.c]
def cells6 (n : Tm.Nd) : List Value := [.int .i64 n.op, .int .i64 n.w, .int .u64 n.n, .int .i64 n.a, .int .i64 n.b, .int .i64 n.c]
theorem cells6_at : ∀ (X : List Tm.Nd) (i j : Nat), i < X.length → j < 6 → (X.flatMap cells6)[i * 6 + j]? = (cells6 (X.getD i Tm.z))[j]?
  | [], _, _, h, _ => absurd h (by simp)
  | x :: r, 0, j, _, hj => by
    rw [List.flatMap_cons, List.getElem?_append_left (by show 0 * 6 + j < 6; omega), Nat.zero_mul, Nat.zero_add]; rfl
  | x :: r, i + 1, j, h, hj => by
    rw [List.flatMap_cons, List.getElem?_append_right (by show 6 ≤ (i + 1) * 6 + j; omega), show (i + 1) * 6 + j - (cells6 x).length = i * 6 + j by show (i + 1) * 6 + j - 6 = _; omega]
    exact cells6_at r i j (by simpa using h) hj
theorem cells6_len (X : List Tm.Nd) : (X.flatMap cells6).length = X.length * 6 := by
  induction X with
  | nil => rfl
  | cons x r ih => rw [List.flatMap_cons, List.length_append, ih, List.length_cons, show (cells6 x).length = 6 from rfl]; omega
theorem ndv_inj {n m : Tm.Nd} (h : ndv n = ndv m) : n = m := by
  cases n; cases m
  simp [ndv] at h
  obtain ⟨h1, h2, h3, h4, h5, h6⟩ := h
  subst h1 h2 h3 h4 h5 h6
  rfl
/-- Its numbers are such. -/
structure Tm.Wf (x : Tm.Nd) : Prop where
  op : (Lit.int .i64 x.op).wf = true
  w : (Lit.int .i64 x.w).wf = true
  n : (Lit.int .u64 x.n).wf = true
  a : (Lit.int .i64 x.a).wf = true
  b : (Lit.int .i64 x.b).wf = true
  c : (Lit.int .i64 x.c).wf = true
theorem Tm.Wf.u {n : Tm.Nd} (h : Tm.Wf n) : Tm.U64 n.n := by
  have h3 : 0 ≤ n.n ∧ n.n ≤ 18446744073709551615 := by simpa [Lit.wf, IntKind.min, IntKind.max, IntKind.signed, IntKind.bits] using h.n
  exact ⟨h3.1, by omega⟩
theorem Tm.wf_z : Tm.Wf Tm.z := ⟨by decide, by decide, by decide, by decide, by decide, by decide⟩

theorem laidOut : laidOutB Try.prog = true := by kernel_rfl
theorem key_law : Keyed Try.prog 36 := Keyed.of_law (deep_law_laid laidOut (m := 3) (by omega) (of_decide_eq_true (by kernel_rfl)) (by kernel_rfl) (by kernel_rfl))
theorem zero3 (w : World) : (zeroValue 3).run Try.prog w = .ok (.int .i64 0) w := by kernel_rfl
theorem key_some {n : Tm.Nd} (h : Tm.Wf n) : ∃ l, keyOf Try.prog 36 (ndv n) = some l := by
  have hs : Try.prog.types.size + 1 = 192 + 1 + 1 + 1 := by kernel_rfl
  have hk : Try.prog.keyType 36 = true := by kernel_rfl
  have hf : (ndv n).formed Try.prog 36 = true := by
    have c6 : Try.prog.cellsOf 36 = 6 := by kernel_rfl
    simp [Value.formed, Try.underlying36, c6]
  have c38 : Try.prog.cellsOf 36 = 6 := by kernel_rfl
  have c36 : Try.prog.cellsOf 34 = 3 := by kernel_rfl
  have c3 : Try.prog.cellsOf 3 = 1 := by kernel_rfl
  have c35 : Try.prog.cellsOf 33 = 1 := by kernel_rfl
  unfold keyOf
  rw [Try.underlying36]
  simp only [hk, hf, Bool.and_self, if_true, hs]
  have this : ∀ d, ∃ ls, Try.prog.keyLits (d + 1 + 1 + 1) 36 (ndv n).cells.toList = some ls := fun d => by
    simp [Program.keyLits, Try.underlying36, Try.underlying34, Try.underlying3, Try.underlying33, Value.cells, c38, c36, c3, c35, h.op, h.w, h.n, h.a, h.b, h.c, List.range, List.range.loop]
  obtain ⟨ls, hls⟩ := this 192
  rw [hls]
  exact ⟨_, rfl⟩

/-- A block with a row of cells. -/
abbrev Blk (w : World) (g : Nat) (t : TypeId) (cs : Array Value) : Prop := w.heap[g]? = some (.cells cs t (0, 0))
theorem Blk.lt {w : World} {g : Nat} {t : TypeId} {cs : Array Value} (h : Blk w g t cs) : g < w.heap.size := (Array.getElem?_eq_some_iff.1 h).1
theorem Blk.c {w : World} {g : Nat} {t : TypeId} {cs : Array Value} (h : Blk w g t cs) (i : Nat) : w.cell? ⟨g, i, none⟩ = cs[i]? := by simp [World.cell?, h]
theorem Blk.fr {w : World} {g : Nat} {t : TypeId} {cs : Array Value} (h : Blk w g t cs) (i : Nat) : w.frozen? ⟨g, i, none⟩ = false := Joins.unfrozen_of_block h i
theorem Blk.set {w : World} {g i : Nat} {t : TypeId} {cs : Array Value} (h : Blk w g t cs) (v : Value) : Blk (w.setCell ⟨g, i, none⟩ v) g t (cs.setIfInBounds i v) := Joins.block_setCell h _
theorem Blk.new (w : World) (cs : Array Value) (t : TypeId) : Blk (w.alloc (.cells cs t)) w.heap.size t cs := heap_alloc_new w _

theorem add_at (b o i : Nat) : (⟨b, o, none⟩ : Addr).add i = ⟨b, o + i, none⟩ := by
  unfold Addr.add
  split
  · rename_i h; subst h; rfl
  · rfl
/-- Where a slice lies. -/
def oblk (A : Option Addr) : Option Nat := A.map (·.block)
/-- What the map has. -/
def MapOf (w : World) (bm : Nat) (X : List Tm.Nd) : Prop :=
  ∃ D : DataW Unit, w.ownsMap Try.prog 36 (plainElem Try.prog 3) bm X.length D ∧ IsMap D ∧
    ∀ nd l, keyOf Try.prog 36 (ndv nd) = some l → (nd ∈ X → Maps.has D l = true ∧ D.atKey l (.lit (.int .i64 0)) = .lit (.int .i64 (X.idxOf nd))) ∧ (nd ∉ X → Maps.has D l = false)
/-- An arena. -/
structure Ar (w : World) (g bm : Nat) (A : Option Addr) (cap : Nat) (X : List Tm.Nd) (q : Nat) : Prop where
  blk : Blk w g 92 #[.slice A X.length cap, .map (some bm), .int .i64 q]
  row : w.ownsRow 0 36 6 (.slice A X.length cap) X.length (X.flatMap cells6)
  map : MapOf w bm X
  wf : ∀ x ∈ X, Tm.Wf x
  nodup : X.Nodup
  ok : Tm.Ok X X.length
theorem Ar.mlt {w : World} {g bm : Nat} {A : Option Addr} {cap : Nat} {X : List Tm.Nd} {q : Nat} (h : Ar w g bm A cap X q) : bm < w.heap.size := by
  obtain ⟨D, hD, _⟩ := h.map
  exact hD.lt
theorem own_is {A : Option Addr} {n cap : Nat} : (Value.slice A n cap).ownBlock = oblk A := by
  cases A <;> rfl
theorem Ar.ne {w : World} {g bm : Nat} {A : Option Addr} {cap : Nat} {X : List Tm.Nd} {q : Nat} (h : Ar w g bm A cap X q) : g ≠ bm ∧ (∀ k, oblk A = some k → k ≠ g ∧ k ≠ bm ∧ k < w.heap.size) := by
  obtain ⟨D, hD, _⟩ := h.map
  obtain ⟨es, clock, hb, _⟩ := hD
  have hg := h.blk
  refine ⟨fun e => ?_, fun k hk => ?_⟩
  · subst e; rw [hg] at hb; cases hb
  · rcases h.row.2 with ⟨e, _⟩ | ⟨g', cap', cur, e, _, hc, _⟩
    · injection e with e1 _ _
      subst e1
      simp [oblk] at hk
    · injection e with e1 _ _
      subst e1
      simp [oblk] at hk
      subst hk
      refine ⟨fun e => ?_, fun e => ?_, (Array.getElem?_eq_some_iff.1 hc).1⟩
      · subst e; rw [hg] at hc; simp at hc
      · subst e; rw [hb] at hc; cases hc
theorem Ar.len {w : World} {g bm : Nat} {A : Option Addr} {cap : Nat} {X : List Tm.Nd} {q : Nat} (h : Ar w g bm A cap X q) : X.length ≤ cap ∧ cap ≤ maxLen := by
  rcases h.row.2 with ⟨e, h0⟩ | ⟨g', cap', cur, e, _, hc, h1, h2, _⟩
  · injection e with _ _ e3
    subst e3
    exact ⟨by omega, Nat.zero_le _⟩
  · injection e with _ _ e3
    subst e3
    exact ⟨h1, h2⟩
/-- The arena stays while other blocks change. -/
theorem Ar.keep {w w' : World} {g bm : Nat} {A : Option Addr} {cap : Nat} {X : List Tm.Nd} {q : Nat} (h : Ar w g bm A cap X q) (hs : w.heap.size ≤ w'.heap.size)
    (hk : ∀ k, k = g ∨ k = bm ∨ oblk A = some k → w'.heap[k]? = w.heap[k]?) : Ar w' g bm A cap X q := by
  refine ⟨(hk g (.inl rfl)).trans h.blk, ?_, ?_, h.wf, h.nodup, h.ok⟩
  · rcases h.row with ⟨hl, ⟨e, h0⟩ | ⟨g', cap', cur, e, hb, hc, h1, h2, h3, h4⟩⟩
    · exact ⟨hl, .inl ⟨e, h0⟩⟩
    · refine ⟨hl, .inr ⟨g', cap', cur, e, hb, (hk g' (.inr (.inr ?_))).trans hc, h1, h2, h3, h4⟩⟩
      injection e with e1 _ _
      subst e1
      rfl
  · obtain ⟨D, ⟨es, clock, hb, hF, hz, hD⟩, hi, hm⟩ := h.map
    exact ⟨D, ⟨es, clock, (hk bm (.inr (.inl rfl))).trans hb, hF, hz, hD⟩, hi, hm⟩
theorem Ar.below {w w' : World} {g bm : Nat} {A : Option Addr} {cap : Nat} {X : List Tm.Nd} {q : Nat} (h : Ar w g bm A cap X q) (hb : Below w.heap.size w w') : Ar w' g bm A cap X q :=
  h.keep hb.size fun k hk => hb.block k (by
    rcases hk with rfl | rfl | hk
    · exact h.blk.lt
    · exact h.mlt
    · exact (h.ne.2 k hk).2.2)
/-- Its nodes lie there. -/
theorem Ar.nd {w : World} {g bm : Nat} {A : Option Addr} {cap : Nat} {X : List Tm.Nd} {q : Nat} (h : Ar w g bm A cap X q) : NdR w A X.length cap X := by
  refine ⟨h.len.1, h.len.2, fun e => ?_, fun h0 => ?_⟩
  · rcases h.row.2 with ⟨_, h1⟩ | ⟨g', cap', cur, e', _⟩
    · exact h1
    · subst e
      cases e'
  · rcases h.row.2 with ⟨_, h1⟩ | ⟨g', cap', cur, e', _, hc, _⟩
    · omega
    · injection e' with e1 _ _
      subst e1
      have hcell := h.row.cells (g := g') rfl
      have hcs : ∀ j u, (X.flatMap cells6)[j]? = some u → w.cell? ⟨g', j, none⟩ = some u := fun j u hu => by
        have := hcell j u hu
        rw [add_at, Nat.zero_add] at this
        exact this
      refine ⟨g', 0, rfl, (Array.getElem?_eq_some_iff.1 hc).1, fun i hi => ?_⟩
      have k0 := cells6_at X i 0 hi (by omega)
      have k1 := cells6_at X i 1 hi (by omega)
      have k2 := cells6_at X i 2 hi (by omega)
      have k3 := cells6_at X i 3 hi (by omega)
      have k4 := cells6_at X i 4 hi (by omega)
      have k5 := cells6_at X i 5 hi (by omega)
      rw [Nat.zero_add]
      exact ⟨hcs _ _ k0, hcs _ _ k1, hcs _ _ k2, hcs _ _ k3, hcs _ _ k4, hcs _ _ k5⟩
end Go.Proofs.Ytdbcpnpcnkccaaa
namespace Go.Proofs.Ytdbcpnpcnkccaaa
open Go.RowKit Go.ChangeShapes Go.WideShapes Go.ChangeAt Go.Deep
set_option maxRecDepth 100000

/-- A slice of nodes, as it comes in. -/
structure NdSl (w : World) (A : Option Addr) (len cap : Nat) (X : List Tm.Nd) : Prop where
  hlen : X.length = len
  nd : NdR w A len cap X
  wf : ∀ x ∈ X, Tm.Wf x
theorem NdSl.below {w w' : World} {A : Option Addr} {len cap : Nat} {X : List Tm.Nd} (h : NdSl w A len cap X) (hb : Below w.heap.size w w') : NdSl w' A len cap X := ⟨h.hlen, h.nd.below hb, h.wf⟩
theorem NdSl.getD {w : World} {A : Option Addr} {len cap : Nat} {X : List Tm.Nd} (h : NdSl w A len cap X) (i : Nat) : Tm.Wf (X.getD i Tm.z) := by
  rw [List.getD_eq_getElem?_getD]
  rcases Nat.lt_or_ge i X.length with h1 | h1
  · rw [List.getElem?_eq_getElem h1]; exact h.wf _ (List.getElem_mem h1)
  · rw [List.getElem?_eq_none h1]; exact Tm.wf_z
theorem NdSl.u {w : World} {A : Option Addr} {len cap : Nat} {X : List Tm.Nd} (h : NdSl w A len cap X) (i : Nat) : Tm.U64 (X.getD i Tm.z).n := (h.getD i).u

section
variable {H : Type} {enc : TypeId × Value → H} {W : World} {b : Nat} {sp : Nat → Bool} {hd : Bool}
theorem cells38 : Try.prog.cellsOf 36 = 6 := by kernel_rfl
theorem cells36 : Try.prog.cellsOf 34 = 3 := by kernel_rfl
theorem cells3 : Try.prog.cellsOf 3 = 1 := by kernel_rfl
theorem cells35 : Try.prog.cellsOf 33 = 1 := by kernel_rfl
theorem nd_of_trod {l : List Value} {n : Nat} {y : DataW H × List MemPlace} (h : DataW.trod enc Try.prog W b sp hd n 36 l = some y) :
    ∃ i : Tm.Nd, l = cells6 i ∧ Tm.Wf i := by
  obtain ⟨ys, k, _, _, hl, hy, hf⟩ := DataW.trod_struct Try.underlying36 h
  rw [cells38] at hl
  have g0 := hf 0 _ rfl
  have g1 := hf 1 _ rfl
  have g2 := hf 2 _ rfl
  have g3 := hf 3 _ rfl
  match l, hl with
  | [c0, c1, c2, c3, c4, c5], _ =>
    match ys, hy with
    | [y0, y1, y2, y3], _ =>
      simp [cells3, cells35, cells36] at g0 g1 g2 g3
      obtain ⟨n0, e0, _, w0⟩ := DataW.trod_int Try.underlying3 g0
      obtain ⟨n1, e1, _, w1⟩ := DataW.trod_int Try.underlying3 g1
      obtain ⟨n2, e2, _, w2⟩ := DataW.trod_int Try.underlying33 g2
      have ga := DataW.trod_array Try.underlying34 g3
      obtain ⟨xs, m, _, _, _, hxl, hi⟩ := ga
      match xs, hxl with
      | [z0, z1, z2], _ =>
        have f0 := hi 0 (by omega)
        have f1 := hi 1 (by omega)
        have f2 := hi 2 (by omega)
        simp [cells3] at f0 f1 f2
        obtain ⟨n3, e3, _, w3⟩ := DataW.trod_int Try.underlying3 f0
        obtain ⟨n4, e4, _, w4⟩ := DataW.trod_int Try.underlying3 f1
        obtain ⟨n5, e5, _, w5⟩ := DataW.trod_int Try.underlying3 f2
        simp at e0 e1 e2 e3 e4 e5
        subst e0 e1 e2 e3 e4 e5
        exact ⟨⟨n0, n1, n2, n3, n4, n5⟩, rfl, ⟨w0, w1, w2, w3, w4, w5⟩⟩
theorem list_of {α : Type} (z : α) {n : Nat} {Q : Nat → α → Prop} (h : ∀ i, i < n → ∃ x, Q i x) : ∃ l : List α, l.length = n ∧ ∀ i, i < n → Q i (l.getD i z) := by
  induction n with
  | zero => exact ⟨[], rfl, fun i hi => absurd hi (by omega)⟩
  | succ n ih =>
    obtain ⟨l, hl, hq⟩ := ih fun i hi => h i (by omega)
    obtain ⟨x, hx⟩ := h n (by omega)
    refine ⟨l ++ [x], by simp [hl], fun i hi => ?_⟩
    rcases Nat.lt_or_ge i n with h1 | h1
    · rw [List.getD_eq_getElem?_getD, List.getElem?_append_left (by omega), ← List.getD_eq_getElem?_getD]
      exact hq i h1
    · obtain rfl : i = n := by omega
      rw [List.getD_eq_getElem?_getD, List.getElem?_append_right (by omega), hl, Nat.sub_self]
      exact hx
/-- A list of nodes that comes in. -/
theorem open_nodes {base : Nat} {v : Value} {d : DataW H} {p : List MemPlace} (hv : Value.okWide Try.prog W .any base 22 v) (h : DataW.Trod enc Try.prog W b sp hd 22 v d p) (hsp : ∀ k, sp k = true) :
    ∃ A len cap X, v = .slice A len cap ∧ NdSl W A len cap X := by
  obtain ⟨A0, len0, cap0, rfl⟩ := okWide_slice Try.underlying22 hv
  obtain ⟨fuel, hf⟩ := h
  rcases open_slice Try.underlying22 hf with ⟨hcs, _⟩ | ⟨a, len, cap, m, k, D, Pl, hcs, _, hl, hm, hmm, _, hi⟩
  · simp [Value.cells] at hcs
    obtain ⟨rfl, rfl, rfl⟩ := hcs
    exact ⟨none, 0, 0, [], rfl, rfl, ⟨Nat.le_refl _, Nat.zero_le _, fun _ => rfl, fun h0 => absurd h0 (by omega)⟩, fun x hx => absurd hx (by simp)⟩
  · simp [Value.cells] at hcs
    obtain ⟨rfl, rfl, rfl⟩ := hcs
    have hmc : m = cap0 := by rw [hmm, hsp]; rfl
    have hel : ∀ i, i < len0 → ∃ x : Tm.Nd, (∀ j, j < 6 → W.cell? ((a.add (i * 6)).add j) = (cells6 x)[j]?) ∧ Tm.Wf x := fun i hlt => by
      obtain ⟨cs', hc, ht⟩ := hi i (by omega)
      rw [cells38] at hc
      obtain ⟨_, _, hat⟩ := World.cells?_some hc
      obtain ⟨x, rfl, h1⟩ := nd_of_trod ht
      exact ⟨x, fun j hj => hat j hj, h1⟩
    obtain ⟨X, hcl, hq⟩ := list_of Tm.z hel
    refine ⟨some a, len0, cap0, X, rfl, hcl, ⟨hl, hm, fun e => by simp at e, fun h0 => ?_⟩, fun x hx => ?_⟩
    · obtain ⟨b', o, spot⟩ := a
      have h00 := (hq 0 h0).1 0 (by omega)
      have hspot : spot = none := by
        have h1 : W.cell? (⟨b', o, spot⟩ : Addr) = some (.int .i64 (X.getD 0 Tm.z).op) := by simpa [Addr.add, cells6] using h00
        simpa using World.cell?_spot h1
      subst hspot
      refine ⟨b', o, rfl, ?_, fun i hlt => ?_⟩
      · rcases Nat.lt_or_ge b' W.heap.size with h2 | h2
        · exact h2
        · simp [World.cell?, Addr.add, Array.getElem?_eq_none h2, cells6] at h00
      · have e : ∀ j, j < 6 → W.cell? ⟨b', o + i * 6 + j, none⟩ = (cells6 (X.getD i Tm.z))[j]? := fun j hj => by
          have := (hq i hlt).1 j hj
          rwa [add_at, add_at] at this
        exact ⟨e 0 (by omega), e 1 (by omega), e 2 (by omega), e 3 (by omega), e 4 (by omega), e 5 (by omega)⟩
    · obtain ⟨i, hi', rfl⟩ := List.mem_iff_getElem.1 hx
      have := (hq i (by omega)).2
      rw [List.getD_eq_getElem?_getD, List.getElem?_eq_getElem hi'] at this
      exact this
/-- A node that comes in. -/
theorem open_node {base : Nat} {v : Value} {d : DataW H} {p : List MemPlace} (hv : Value.okWide Try.prog W .any base 36 v) (h : DataW.Trod enc Try.prog W b sp hd 36 v d p) : ∃ nd : Tm.Nd, v = ndv nd ∧ Tm.Wf nd := by
  obtain ⟨cs, rfl, hsz⟩ := okWide_struct Try.underlying36 hv
  obtain ⟨fuel, hf⟩ := h
  obtain ⟨nd, e, hw⟩ := nd_of_trod hf
  refine ⟨nd, ?_, hw⟩
  obtain ⟨l⟩ := cs
  have e' : l = cells6 nd := by simpa [Value.cells] using e
  subst e'
  rfl
end
end Go.Proofs.Ytdbcpnpcnkccaaa
