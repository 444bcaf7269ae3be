/-
  What a node hangs on: the contract of hangsOn.
-/
import Derived.Test.YtfehmbcgehflmaaTmT1
import Derived.Deep.OwnRows
namespace Go.Proofs.Ytfehmbcgehflmaa
set_option linter.unusedSimpArgs false
set_option linter.unusedVariables false
open Go.RowKit Go.Maps

/-- The kids of a node are marked. -/
def Tm.mark (F : Nat → Bool) (nd : Tm.Nd) : Nat → Bool := fun i =>
  F i || (decide (1 ≤ Tm.kidn nd.op ∧ i = nd.a.toNat) || (decide (2 ≤ Tm.kidn nd.op ∧ i = nd.b.toNat) || decide (3 ≤ Tm.kidn nd.op ∧ i = nd.c.toNat)))
/-- Places n - 1 to 0 are gone through. -/
def Tm.hgo (X : List Tm.Nd) : Nat → (Nat → Bool) → (Nat → Bool)
  | 0, F => F
  | i + 1, F => Tm.hgo X i (if F i = true then Tm.mark F (X.getD i Tm.z) else F)
def Tm.hang (X : List Tm.Nd) (p : Nat) : Nat → Bool := Tm.hgo X (p + 1) (fun i => decide (i = p))
/-- A row of bools, and one of integers. -/
def brow (F : Nat → Bool) (m : Nat) : Array Value := ((List.range m).map fun i => Value.bool (F i)).toArray
def irow (F : Nat → Int) (m : Nat) : Array Value := ((List.range m).map fun i => Value.int .i64 (F i)).toArray
theorem brow_at {F : Nat → Bool} {m i : Nat} (h : i < m) : (brow F m)[i]? = some (.bool (F i)) := by simp [brow, h]
theorem irow_at {F : Nat → Int} {m i : Nat} (h : i < m) : (irow F m)[i]? = some (.int .i64 (F i)) := by simp [irow, h]
theorem brow_set {F G : Nat → Bool} {m i : Nat} (h : ∀ j, G j = if j = i then true else F j) : (brow F m).setIfInBounds i (.bool true) = brow G m := by
  apply Array.ext
  · simp [brow]
  · intro j h1 h2
    simp [brow, List.getElem_set]
    rw [h j]
    by_cases e : i = j
    · rw [decide_eq_true e, if_pos e.symm, Bool.true_or]
    · rw [decide_eq_false e, if_neg (fun h => e h.symm), Bool.false_or]
theorem irow_set {F G : Nat → Int} {m i : Nat} {v : Int} (h : ∀ j, G j = if j = i then v else F j) : (irow F m).setIfInBounds i (.int .i64 v) = irow G m := by
  apply Array.ext
  · simp [irow]
  · intro j h1 h2
    simp [irow, List.getElem_set]
    rw [h j]
    by_cases e : i = j
    · rw [if_pos e, if_pos e.symm]
    · rw [if_neg e, if_neg (fun h => e h.symm)]
theorem made_b (m : Nat) : madeCells #[Value.bool false] m = brow (fun _ => false) m := by
  apply Array.ext
  · simp [brow, madeCells]
  · intro j h1 h2
    simp [brow, madeCells, Nat.mod_one]
theorem made_i (m : Nat) : madeCells #[Value.int .i64 0] m = irow (fun _ => 0) m := by
  apply Array.ext
  · simp [irow, madeCells]
  · intro j h1 h2
    simp [irow, madeCells, Nat.mod_one]
theorem b_info : (Try.prog.info? 4).map (fun i => (i.zero, i.size, i.bytes)) = some (some (.bool false), 1, 1) := by kernel_rfl
theorem i_info : (Try.prog.info? 3).map (fun i => (i.zero, i.size, i.bytes)) = some (some (.int .i64 0), 1, 8) := by kernel_rfl

theorem Tm.mark0 {F : Nat → Bool} {nd : Tm.Nd} (hk : Tm.kidn nd.op = 0) : Tm.mark F nd = F := by funext i; simp [Tm.mark, hk]
theorem Tm.hgo_yes {X : List Tm.Nd} {i : Nat} {F : Nat → Bool} (h : F i = true) : Tm.hgo X (i + 1) F = Tm.hgo X i (Tm.mark F (X.getD i Tm.z)) := by rw [Tm.hgo, if_pos h]
theorem Tm.hgo_no {X : List Tm.Nd} {i : Nat} {F : Nat → Bool} (h : F i = false) : Tm.hgo X (i + 1) F = Tm.hgo X i F := by rw [Tm.hgo, if_neg (by rw [h]; simp)]
theorem brow_mark1 {F : Nat → Bool} {m : Nat} {nd : Tm.Nd} (hk : Tm.kidn nd.op = 1) : (brow F m).setIfInBounds nd.a.toNat (.bool true) = brow (Tm.mark F nd) m := brow_set fun j => by
  simp [Tm.mark, hk]
  by_cases e : j = nd.a.toNat <;> simp [e]
theorem brow_mark2 {F : Nat → Bool} {m : Nat} {nd : Tm.Nd} (hk : Tm.kidn nd.op = 2) : ((brow F m).setIfInBounds nd.a.toNat (.bool true)).setIfInBounds nd.b.toNat (.bool true) = brow (Tm.mark F nd) m := by
  rw [brow_set (G := fun j => if j = nd.a.toNat then true else F j) (fun j => rfl)]
  exact brow_set fun j => by
    simp [Tm.mark, hk]
    by_cases e : j = nd.a.toNat <;> by_cases e' : j = nd.b.toNat <;> simp [e, e']
theorem brow_mark3 {F : Nat → Bool} {m : Nat} {nd : Tm.Nd} (hk : Tm.kidn nd.op = 3) : (((brow F m).setIfInBounds nd.a.toNat (.bool true)).setIfInBounds nd.b.toNat (.bool true)).setIfInBounds nd.c.toNat (.bool true) = brow (Tm.mark F nd) m := by
  rw [brow_set (G := fun j => if j = nd.a.toNat then true else F j) (fun j => rfl), brow_set (G := fun j => if j = nd.b.toNat then true else if j = nd.a.toNat then true else F j) (fun j => rfl)]
  exact brow_set fun j => by
    simp [Tm.mark, hk]
    by_cases e : j = nd.a.toNat <;> by_cases e' : j = nd.b.toNat <;> by_cases e'' : j = nd.c.toNat <;> simp [e, e', e'']

/-- The row of marks, and a node's box behind it. -/
structure Nb (w : World) (b : Nat) (cs : Array Value) (hx : Nat) (nd : Tm.Nd) (B : World) : Prop where
  blk : Blk w b 4 cs
  bx : Bx w hx nd
  bel : Below B.heap.size B w
  ne : hx ≠ b
  le : B.heap.size ≤ b
theorem Nb.set {w : World} {b : Nat} {cs : Array Value} {hx : Nat} {nd : Tm.Nd} {B : World} (h : Nb w b cs hx nd B) (i : Nat) : Nb (w.setCell ⟨b, i, none⟩ (.bool true)) b (cs.setIfInBounds i (.bool true)) hx nd B :=
  ⟨h.blk.set _, h.bx.keep (Below.heap_setCell _ _ _ _ h.ne), h.bel.setCell h.le _, h.ne, h.le⟩
theorem Nb.new {wr B : World} {b : Nat} {cs : Array Value} {nd : Tm.Nd} (h : Blk wr b 4 cs) (hb : Below B.heap.size B wr) (le : B.heap.size ≤ b) : Nb (wr.alloc (.cells #[.int .i64 nd.op, .int .i64 nd.w, .int .u64 nd.n, .int .i64 nd.a, .int .i64 nd.b, .int .i64 nd.c] 38)) b cs wr.heap.size nd B :=
  ⟨((Below.box wr _).block b h.lt).trans h, Bx.new wr nd, hb.alloc hb.size _, by have := h.lt; omega, le⟩
theorem bsz (F : Nat → Bool) (m : Nat) : (brow F m).size = m := by simp [brow]
/-- There is a cell. -/
theorem Nb.cell {w : World} {b : Nat} {cs : Array Value} {hx : Nat} {nd : Tm.Nd} {B : World} (h : Nb w b cs hx nd B) {i : Nat} {m : Nat} (hm : cs.size = m) (hi : i < m) : ∃ u, w.cell? ⟨b, i, none⟩ = some u := by
  rw [h.blk.c]
  exact ⟨_, Array.getElem?_eq_getElem (by omega)⟩

/-- hangsOn's end. -/
def HoP (X : List Tm.Nd) (p : Nat) (w : World) (e : Ending) (w' : World) : Prop :=
  ∃ b, e = .returned (.slice (some ⟨b, 0, none⟩) (p + 1) (p + 1)) ∧ w.heap.size ≤ b ∧ Blk w' b 4 (brow (Tm.hang X p) (p + 1)) ∧ Below w.heap.size w w'

set_option maxRecDepth 20000 in
set_option maxHeartbeats 4000000 in
theorem hangs_any (g bm : Nat) (A : Option Addr) (cap : Nat) (X : List Tm.Nd) (q : Nat) (p : Nat) (w : World) (h : Ar w g bm A cap X q) (hp : p < X.length) (hs : X.length ≤ 1000000) :
    Calls Try.prog 31 #[.pointer (some ⟨g, 0, none⟩), .int .i64 p] w (HoP X p w) := by
  have hmk : ∀ W : World, (Instr.makeSlice 68 (.int .i64 ((p + 1 : Nat) : Int)) (.int .i64 ((p + 1 : Nat) : Int))).run Try.prog W = .ok (.slice (some ⟨W.heap.size, 0, none⟩) (p + 1) (p + 1)) (W.alloc (.cells (brow (fun _ => false) (p + 1)) 4)) := fun W => by
    rw [← made_b]
    exact run_make_row' 68 4 (.bool false) 1 Try.underlying68 b_info rfl .i64 .i64 (p + 1) (by omega) (by omega) W
  have ep : ((p + 1 : Nat) : Int) = (p : Int) + 1 := by omega
  rw [ep] at hmk
  have hb0 : Blk (w.alloc (.cells (brow (fun _ => false) (p + 1)) 4)) w.heap.size 4 (brow (fun _ => false) (p + 1)) := Blk.new _ _ _
  have c0 := (hb0.c p).trans (brow_at (Nat.lt_succ_self p))
  have f0 := hb0.fr p
  have HA := Lib.hid h
  have HP := Lib.hid hp
  have HS := Lib.hid hs
  have hpl : (p : Int) < 1000000 := by omega
  clear hb0 h hp hs ep
  go_enter Try.func31, Try.ntmps31
  go_wp2
  clear hmk c0 f0
  go_loopw [6] (fun t wr => ∃ (k : Nat) (zz : Int) (F : Nat → Bool), k ≤ p + 1 ∧ t = .int .i64 zz ∧ zz = (k : Int) - 1 ∧ Blk wr w.heap.size 4 (brow F (p + 1)) ∧ Tm.hgo X k F = Tm.hang X p ∧ Below w.heap.size w wr) (fun t _ => (intOf t + 1).toNat)
  case atStart =>
    refine ⟨p + 1, _, fun i => decide (i = p), Nat.le_refl _, rfl, by omega, ?_, rfl, (Below.refl _ _).alloc (Nat.le_refl _) _⟩
    rw [brow_set (G := fun i => decide (i = p)) (fun j => by by_cases e : j = p <;> simp [e])]
    exact Blk.new _ _ _
  case round =>
    obtain ⟨k, zz, F, hk, rfl, hz, hbl, hgo, hbw⟩ := hrel
    rcases k with _ | k
    · obtain rfl : zz = -1 := by omega
      have HBL := Lib.hid hbl
      have HG := Lib.hid hgo
      have HBW := Lib.hid hbw
      clear hbl hgo hbw hz
      go_wp2
      go_ret
      exact ⟨w.heap.size, rfl, Nat.le_refl _, by rw [← HG.out]; exact HBL.out, HBW.out⟩
    · obtain rfl : zz = (k : Int) := by omega
      have d0 := (hbl.c k).trans (brow_at (by omega))
      have HBL := Lib.hid hbl
      have HG := Lib.hid hgo
      have HLE := Lib.hid (Nat.le_refl w.heap.size)
      have hk1 : (k : Int) < (p : Int) + 1 := by omega
      have hk2 : k < p + 1 := by omega
      clear hz hgo
      by_cases hF : F k = true
      · have HF := Lib.hid hF
        rw [hF] at d0
        have hA := HA.out.below hbw
        have e0 : wr.cell? ⟨g, 0, none⟩ = some (.slice A X.length cap) := hA.blk.c 0
        obtain ⟨bb, oo, rfl, hbb, hx⟩ := hA.nd.mem (by have := HP.out; omega)
        obtain ⟨x0, x1, x2, x3, x4, x5⟩ := hx k (by have := HP.out; omega)
        have hkx : (k : Int) < X.length := by have := HP.out; omega
        have hok := Tm.flt_zero (hA.ok k (by have := HP.out; omega))
        obtain ⟨nd, hnd⟩ : ∃ nd, X.getD k Tm.z = nd := ⟨_, rfl⟩
        rw [hnd] at x0 x1 x2 x3 x4 x5 hok
        have HND := Lib.hid hnd
        have hK := Tm.kok_in hok.2.2.1
        clear hF hA hx hok hnd hbl
        obtain ⟨op, v, n, a, b, c⟩ := nd
        dsimp only at x0 x1 x2 x3 x4 x5 hK
        generalize X.length = ln at e0 hkx
        have h4 : Tm.kidn op = 0 ∨ Tm.kidn op = 1 ∨ Tm.kidn op = 2 ∨ Tm.kidn op = 3 := by have := Tm.kidn_le op; omega
        rcases h4 with hk | hk | hk | hk
        · have HK := Lib.hid hk
          have HN0 := Nb.new (nd := (⟨op, v, n, a, b, c⟩ : Tm.Nd)) HBL.out hbw HLE.out
          clear hK hk hbw
          go_wp2_with (go_at_call 12; refine (kids_any _ _).mono ?_; rintro e w' ⟨rfl, rfl⟩; rw [HK.out])
          refine wp_loop_rounds 1 ?_
          revert HN0
          generalize (wr.alloc (.cells #[.int .i64 op, .int .i64 v, .int .u64 n, .int .i64 a, .int .i64 b, .int .i64 c] 38)) = U0
          intro HN0
          have HX0 := Lib.hid HN0
          clear HN0
          rw [rounds_succ]; go_wp2
          go_roundw
          case rel =>
            refine ⟨k, _, F, by omega, rfl, by omega, HX0.out.blk, ?_, HX0.out.bel⟩
            rw [← HG.out, Tm.hgo_yes HF.out, HND.out, Tm.mark0 HK.out]
          case measure => simp [intOf]; try omega
        · obtain ⟨r0, t0⟩ := hK.1 (by omega)
          obtain ⟨i0, rfl⟩ := Int.eq_ofNat_of_zero_le r0
          have j0 : (i0 : Int) < (p : Int) + 1 := by omega
          have m0 : i0 < p + 1 := by omega
          have HK := Lib.hid hk
          have HN0 := Nb.new (nd := (⟨op, v, n, ((i0 : Nat) : Int), b, c⟩ : Tm.Nd)) HBL.out hbw HLE.out
          clear hK hk hbw
          go_wp2_with (go_at_call 12; refine (kids_any _ _).mono ?_; rintro e w' ⟨rfl, rfl⟩; rw [HK.out])
          refine wp_loop_rounds 2 ?_
          revert HN0
          generalize (wr.alloc (.cells #[.int .i64 op, .int .i64 v, .int .u64 n, .int .i64 ((i0 : Nat) : Int), .int .i64 b, .int .i64 c] 38)) = U0
          intro HN0
          obtain ⟨b0, b1, b2, b3, b4, b5⟩ := HN0.bx
          dsimp only at b0 b1 b2 b3 b4 b5
          obtain ⟨uu0, d0⟩ := HN0.cell (m := p + 1) (by simp [bsz]) m0
          have f0 := HN0.blk.fr i0
          have HX0 := Lib.hid HN0
          clear HN0
          rw [rounds_succ]; go_wp2
          clear b0 b1 b2 b3 b4 b5 d0 f0
          have HN1 := HX0.out.set i0
          revert HN1
          generalize U0.setCell ⟨w.heap.size, i0, none⟩ (.bool true) = U1
          intro HN1
          have HX1 := Lib.hid HN1
          clear HN1
          rw [rounds_succ]; go_wp2
          go_roundw
          case rel =>
            refine ⟨k, _, Tm.mark F (⟨op, v, n, ((i0 : Nat) : Int), b, c⟩ : Tm.Nd), by omega, rfl, by omega, ?_, ?_, HX1.out.bel⟩
            · have := HX1.out.blk
              rw [← brow_mark1 (nd := (⟨op, v, n, ((i0 : Nat) : Int), b, c⟩ : Tm.Nd)) HK.out]
              simpa only [Int.toNat_natCast] using this
            · rw [← HG.out, Tm.hgo_yes HF.out, HND.out]
          case measure => simp [intOf]; try omega
        · obtain ⟨r0, t0⟩ := hK.1 (by omega)
          obtain ⟨i0, rfl⟩ := Int.eq_ofNat_of_zero_le r0
          have j0 : (i0 : Int) < (p : Int) + 1 := by omega
          have m0 : i0 < p + 1 := by omega
          obtain ⟨r1, t1⟩ := hK.2.1 (by omega)
          obtain ⟨i1, rfl⟩ := Int.eq_ofNat_of_zero_le r1
          have j1 : (i1 : Int) < (p : Int) + 1 := by omega
          have m1 : i1 < p + 1 := by omega
          have HK := Lib.hid hk
          have HN0 := Nb.new (nd := (⟨op, v, n, ((i0 : Nat) : Int), ((i1 : Nat) : Int), c⟩ : Tm.Nd)) HBL.out hbw HLE.out
          clear hK hk hbw
          go_wp2_with (go_at_call 12; refine (kids_any _ _).mono ?_; rintro e w' ⟨rfl, rfl⟩; rw [HK.out])
          refine wp_loop_rounds 3 ?_
          revert HN0
          generalize (wr.alloc (.cells #[.int .i64 op, .int .i64 v, .int .u64 n, .int .i64 ((i0 : Nat) : Int), .int .i64 ((i1 : Nat) : Int), .int .i64 c] 38)) = U0
          intro HN0
          obtain ⟨b0, b1, b2, b3, b4, b5⟩ := HN0.bx
          dsimp only at b0 b1 b2 b3 b4 b5
          obtain ⟨uu0, d0⟩ := HN0.cell (m := p + 1) (by simp [bsz]) m0
          have f0 := HN0.blk.fr i0
          have HX0 := Lib.hid HN0
          clear HN0
          rw [rounds_succ]; go_wp2
          clear b0 b1 b2 b3 b4 b5 d0 f0
          have HN1 := HX0.out.set i0
          revert HN1
          generalize U0.setCell ⟨w.heap.size, i0, none⟩ (.bool true) = U1
          intro HN1
          obtain ⟨b0, b1, b2, b3, b4, b5⟩ := HN1.bx
          dsimp only at b0 b1 b2 b3 b4 b5
          obtain ⟨uu1, d0⟩ := HN1.cell (m := p + 1) (by simp [bsz]) m1
          have f0 := HN1.blk.fr i1
          have HX1 := Lib.hid HN1
          clear HN1
          rw [rounds_succ]; go_wp2
          clear b0 b1 b2 b3 b4 b5 d0 f0
          have HN2 := HX1.out.set i1
          revert HN2
          generalize U1.setCell ⟨w.heap.size, i1, none⟩ (.bool true) = U2
          intro HN2
          have HX2 := Lib.hid HN2
          clear HN2
          rw [rounds_succ]; go_wp2
          go_roundw
          case rel =>
            refine ⟨k, _, Tm.mark F (⟨op, v, n, ((i0 : Nat) : Int), ((i1 : Nat) : Int), c⟩ : Tm.Nd), by omega, rfl, by omega, ?_, ?_, HX2.out.bel⟩
            · have := HX2.out.blk
              rw [← brow_mark2 (nd := (⟨op, v, n, ((i0 : Nat) : Int), ((i1 : Nat) : Int), c⟩ : Tm.Nd)) HK.out]
              simpa only [Int.toNat_natCast] using this
            · rw [← HG.out, Tm.hgo_yes HF.out, HND.out]
          case measure => simp [intOf]; try omega
        · obtain ⟨r0, t0⟩ := hK.1 (by omega)
          obtain ⟨i0, rfl⟩ := Int.eq_ofNat_of_zero_le r0
          have j0 : (i0 : Int) < (p : Int) + 1 := by omega
          have m0 : i0 < p + 1 := by omega
          obtain ⟨r1, t1⟩ := hK.2.1 (by omega)
          obtain ⟨i1, rfl⟩ := Int.eq_ofNat_of_zero_le r1
          have j1 : (i1 : Int) < (p : Int) + 1 := by omega
          have m1 : i1 < p + 1 := by omega
          obtain ⟨r2, t2⟩ := hK.2.2 (by omega)
          obtain ⟨i2, rfl⟩ := Int.eq_ofNat_of_zero_le r2
          have j2 : (i2 : Int) < (p : Int) + 1 := by omega
          have m2 : i2 < p + 1 := by omega
          have HK := Lib.hid hk
          have HN0 := Nb.new (nd := (⟨op, v, n, ((i0 : Nat) : Int), ((i1 : Nat) : Int), ((i2 : Nat) : Int)⟩ : Tm.Nd)) HBL.out hbw HLE.out
          clear hK hk hbw
          go_wp2_with (go_at_call 12; refine (kids_any _ _).mono ?_; rintro e w' ⟨rfl, rfl⟩; rw [HK.out])
          refine wp_loop_rounds 4 ?_
          revert HN0
          generalize (wr.alloc (.cells #[.int .i64 op, .int .i64 v, .int .u64 n, .int .i64 ((i0 : Nat) : Int), .int .i64 ((i1 : Nat) : Int), .int .i64 ((i2 : Nat) : Int)] 38)) = U0
          intro HN0
          obtain ⟨b0, b1, b2, b3, b4, b5⟩ := HN0.bx
          dsimp only at b0 b1 b2 b3 b4 b5
          obtain ⟨uu0, d0⟩ := HN0.cell (m := p + 1) (by simp [bsz]) m0
          have f0 := HN0.blk.fr i0
          have HX0 := Lib.hid HN0
          clear HN0
          rw [rounds_succ]; go_wp2
          clear b0 b1 b2 b3 b4 b5 d0 f0
          have HN1 := HX0.out.set i0
          revert HN1
          generalize U0.setCell ⟨w.heap.size, i0, none⟩ (.bool true) = U1
          intro HN1
          obtain ⟨b0, b1, b2, b3, b4, b5⟩ := HN1.bx
          dsimp only at b0 b1 b2 b3 b4 b5
          obtain ⟨uu1, d0⟩ := HN1.cell (m := p + 1) (by simp [bsz]) m1
          have f0 := HN1.blk.fr i1
          have HX1 := Lib.hid HN1
          clear HN1
          rw [rounds_succ]; go_wp2
          clear b0 b1 b2 b3 b4 b5 d0 f0
          have HN2 := HX1.out.set i1
          revert HN2
          generalize U1.setCell ⟨w.heap.size, i1, none⟩ (.bool true) = U2
          intro HN2
          obtain ⟨b0, b1, b2, b3, b4, b5⟩ := HN2.bx
          dsimp only at b0 b1 b2 b3 b4 b5
          obtain ⟨uu2, d0⟩ := HN2.cell (m := p + 1) (by simp [bsz]) m2
          have f0 := HN2.blk.fr i2
          have HX2 := Lib.hid HN2
          clear HN2
          rw [rounds_succ]; go_wp2
          clear b0 b1 b2 b3 b4 b5 d0 f0
          have HN3 := HX2.out.set i2
          revert HN3
          generalize U2.setCell ⟨w.heap.size, i2, none⟩ (.bool true) = U3
          intro HN3
          have HX3 := Lib.hid HN3
          clear HN3
          rw [rounds_succ]; go_wp2
          go_roundw
          case rel =>
            refine ⟨k, _, Tm.mark F (⟨op, v, n, ((i0 : Nat) : Int), ((i1 : Nat) : Int), ((i2 : Nat) : Int)⟩ : Tm.Nd), by omega, rfl, by omega, ?_, ?_, HX3.out.bel⟩
            · have := HX3.out.blk
              rw [← brow_mark3 (nd := (⟨op, v, n, ((i0 : Nat) : Int), ((i1 : Nat) : Int), ((i2 : Nat) : Int)⟩ : Tm.Nd)) HK.out]
              simpa only [Int.toNat_natCast] using this
            · rw [← HG.out, Tm.hgo_yes HF.out, HND.out]
          case measure => simp [intOf]; try omega
      · have hF' : F k = false := by simpa using hF
        have HF := Lib.hid hF'
        have HBW := Lib.hid hbw
        rw [hF'] at d0
        clear hF hF' hbl hbw
        go_wp2
        go_roundw
        case rel => exact ⟨k, _, F, by omega, rfl, by omega, HBL.out, by rw [← HG.out, Tm.hgo_no HF.out], HBW.out⟩
        case measure => simp [intOf]; try omega
end Go.Proofs.Ytfehmbcgehflmaa
