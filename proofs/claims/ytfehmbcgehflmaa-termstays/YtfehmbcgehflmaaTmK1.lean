/-
  The document's example: awake.
-/
import Derived.Test.YtfehmbcgehflmaaTmT3
namespace Go.Proofs.Ytfehmbcgehflmaa
set_option linter.unusedSimpArgs false
set_option linter.unusedVariables false
open Go.RowKit Go.Maps

theorem make_any (g bm : Nat) (A : Option Addr) (cap : Nat) (X : List Tm.Nd) (q : Nat) (nd : Tm.Nd) (w : World) (h : Ar w g bm A cap X q) (hq : q < 1000000000) (hw : Tm.Wf nd) (hl : X.length < 65536) :
    Calls Try.prog 15 #[.pointer (some ⟨g, 0, none⟩), ndv nd] w (MkP g bm A X q nd w) := by
  by_cases hin : nd ∈ X
  · exact make_in g bm A cap X q nd w h hq hw hin
  · exact make_out g bm A cap X q nd w h hq hw hin hl

def n0 : Tm.Nd := ⟨1, 8, 0, 0, 0, 0⟩
def n1 : Tm.Nd := ⟨6, 64, 0, 0, 0, 0⟩
def n2 : Tm.Nd := ⟨0, 64, 5, 0, 0, 0⟩
def n3 : Tm.Nd := ⟨8, 64, 0, 1, 2, 0⟩
theorem mk0 : Tm.mk [] n0 = ([n0], 0, 0) := by decide
theorem mk1 : Tm.mk [n0] n1 = ([n0, n1], 1, 0) := by decide
theorem mk2 : Tm.mk [n0, n1] n2 = ([n0, n1, n2], 2, 0) := by decide
theorem mk3 : Tm.mk [n0, n1, n2] n3 = ([n0, n1, n2, n3], 3, 0) := by decide
theorem mk4 : Tm.mk [n0, n1, n2, n3] n0 = ([n0, n1, n2, n3], 0, 0) := by decide
theorem te1 : (Tm.term [n0, n1, n2, n3] 1).length = 2 := by decide
theorem wf0 : Tm.Wf n0 := ⟨by decide, by decide, by decide, by decide, by decide, by decide⟩
theorem wf1 : Tm.Wf n1 := ⟨by decide, by decide, by decide, by decide, by decide, by decide⟩
theorem wf2 : Tm.Wf n2 := ⟨by decide, by decide, by decide, by decide, by decide, by decide⟩
theorem wf3 : Tm.Wf n3 := ⟨by decide, by decide, by decide, by decide, by decide, by decide⟩

/-- The world of an arena that was made behind n blocks. -/
structure Aw (n : Nat) (w0 w : World) (g bm : Nat) (A : Option Addr) (cap : Nat) (X : List Tm.Nd) (q : Nat) : Prop where
  ar : Ar w g bm A cap X q
  bel : Below n w0 w
  hg : n ≤ g
  hm : n ≤ bm
  ho : ∀ k, oblk A = some k → n ≤ k
theorem Aw.fr {n : Nat} {w0 w w' : World} {g bm : Nat} {A A' : Option Addr} {cap cap' : Nat} {X X' : List Tm.Nd} {q q' : Nat} (h : Aw n w0 w g bm A cap X q) (ha : Ar w' g bm A' cap' X' q') (hf : Fr g (some bm) (oblk A) w w') (hv : Moves w.heap.size (oblk A) (oblk A')) (hn : n ≤ w.heap.size) : Aw n w0 w' g bm A' cap' X' q' := by
  have hB : Below n w w' := ⟨hf.os, hf.tape, hf.output, hf.size, fun k hk => hf.block k (by omega) (by have := h.hg; omega) (fun e => by injection e with e; have := h.hm; omega) (fun e => by have := h.ho k e.symm; omega)⟩
  refine ⟨ha, h.bel.trans hB, h.hg, h.hm, fun k hk => ?_⟩
  rcases hv with e | ⟨j, hj, e⟩
  · exact h.ho k (e ▸ hk)
  · rw [e] at hk; injection hk with hk; omega
theorem Aw.below {n : Nat} {w0 w w' : World} {g bm : Nat} {A : Option Addr} {cap : Nat} {X : List Tm.Nd} {q : Nat} (h : Aw n w0 w g bm A cap X q) (hb : Below w.heap.size w w') (hn : n ≤ w.heap.size) : Aw n w0 w' g bm A cap X q :=
  ⟨h.ar.below hb, h.bel.trans (hb.mono hn), h.hg, h.hm, h.ho⟩

set_option maxRecDepth 20000 in
set_option maxHeartbeats 4000000 in
theorem awake_any (w : World) : Calls Try.prog 9 #[] w fun e w' => e = .returned (.bool true) ∧ Below w.heap.size w w' := by
  go_enter Try.func9, Try.ntmps9
  go_wp2_with fail
  refine (new_any w).mono ?_
  rintro e w0 ⟨g, bm, rfl, hA, hb, hg, hbm⟩
  have H0 := Lib.hid (show Aw w.heap.size w w0 g bm none 0 [] 0 from ⟨hA, hb, hg, hbm, fun k hk => by simp [oblk] at hk⟩)
  clear hA hb hg hbm
  have M0 := Lib.hid (show Calls Try.prog 15 #[.pointer (some ⟨g, 0, none⟩), .agg #[.int .i64 1, .int .i64 8, .int .u64 0, .int .i64 0, .int .i64 0, .int .i64 0]] w0 (MkP g bm none [] 0 n0 w0) from make_any g bm none 0 [] 0 n0 w0 H0.out.ar (by omega) wf0 (by decide))
  go_wp2_with fail
  refine M0.out.mono ?_
  rintro e w1 ⟨A1, cap1, rfl, hA, hf, hv⟩
  rw [mk0] at hA
  have H1 := Lib.hid (H0.out.fr hA hf hv H0.out.bel.size)
  rw [mk0]
  clear hA hf hv M0
  dsimp only
  have M1 := Lib.hid (show Calls Try.prog 15 #[.pointer (some ⟨g, 0, none⟩), .agg #[.int .i64 6, .int .i64 64, .int .u64 0, .int .i64 0, .int .i64 0, .int .i64 0]] w1 (MkP g bm A1 [n0] 1 n1 w1) from make_any g bm A1 cap1 [n0] 1 n1 w1 H1.out.ar (by omega) wf1 (by decide))
  go_wp2_with fail
  refine M1.out.mono ?_
  rintro e w2 ⟨A2, cap2, rfl, hA, hf, hv⟩
  rw [mk1] at hA
  have H2 := Lib.hid (H1.out.fr hA hf hv H1.out.bel.size)
  rw [mk1]
  clear hA hf hv M1
  dsimp only
  have M2 := Lib.hid (show Calls Try.prog 15 #[.pointer (some ⟨g, 0, none⟩), .agg #[.int .i64 0, .int .i64 64, .int .u64 5, .int .i64 0, .int .i64 0, .int .i64 0]] w2 (MkP g bm A2 [n0, n1] 2 n2 w2) from make_any g bm A2 cap2 [n0, n1] 2 n2 w2 H2.out.ar (by omega) wf2 (by decide))
  go_wp2_with fail
  refine M2.out.mono ?_
  rintro e w3 ⟨A3, cap3, rfl, hA, hf, hv⟩
  rw [mk2] at hA
  have H3 := Lib.hid (H2.out.fr hA hf hv H2.out.bel.size)
  rw [mk2]
  clear hA hf hv M2
  dsimp only
  have M3 := Lib.hid (show Calls Try.prog 15 #[.pointer (some ⟨g, 0, none⟩), .agg #[.int .i64 8, .int .i64 64, .int .u64 0, .int .i64 1, .int .i64 2, .int .i64 0]] w3 (MkP g bm A3 [n0, n1, n2] 3 n3 w3) from make_any g bm A3 cap3 [n0, n1, n2] 3 n3 w3 H3.out.ar (by omega) wf3 (by decide))
  go_wp2_with fail
  refine M3.out.mono ?_
  rintro e w4 ⟨A4, cap4, rfl, hA, hf, hv⟩
  rw [mk3] at hA
  have H4 := Lib.hid (H3.out.fr hA hf hv H3.out.bel.size)
  rw [mk3]
  clear hA hf hv M3
  dsimp only
  have M4 := Lib.hid (show Calls Try.prog 15 #[.pointer (some ⟨g, 0, none⟩), .agg #[.int .i64 1, .int .i64 8, .int .u64 0, .int .i64 0, .int .i64 0, .int .i64 0]] w4 (MkP g bm A4 [n0, n1, n2, n3] 4 n0 w4) from make_any g bm A4 cap4 [n0, n1, n2, n3] 4 n0 w4 H4.out.ar (by omega) wf0 (by decide))
  go_wp2_with fail
  refine M4.out.mono ?_
  rintro e w5 ⟨A5, cap5, rfl, hA, hf, hv⟩
  rw [mk4] at hA
  have H5 := Lib.hid (H4.out.fr hA hf hv H4.out.bel.size)
  rw [mk4]
  clear hA hf hv M4
  dsimp only
  have ML := Lib.hid (len_any H5.out.ar)
  have MT := Lib.hid (term_in g bm A5 cap5 [n0, n1, n2, n3] 5 1 w5 H5.out.ar (by decide) (by decide))
  go_wp2_with (go_at_call 17; refine ML.out.mono ?_; rintro e w' ⟨rfl, rfl⟩)
  refine MT.out.mono ?_
  rintro e v ⟨A6, cap6, rfl, _, hb⟩
  rw [te1]
  have HB := Lib.hid (H5.out.bel.trans (hb.mono H5.out.bel.size))
  clear hb
  go_wp2
  go_ret
  exact ⟨rfl, HB.out⟩
end Go.Proofs.Ytfehmbcgehflmaa
