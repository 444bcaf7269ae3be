/-
  Contracts of the reference's Find, and of Same.
-/
import Derived.Test.YtfehmbcgehflmaaTmS
import Derived.ChangeKeysEq
namespace Go.Proofs.Ytfehmbcgehflmaa
set_option linter.unusedSimpArgs false
set_option linter.unusedVariables false
open Go.RowKit Go.Maps

theorem run_eq3 (a b c a' b' c' : Int) (W : World) : (Op.equalIn 9999 36 (.agg #[.int .i64 a, .int .i64 b, .int .i64 c]) (.agg #[.int .i64 a', .int .i64 b', .int .i64 c'])).run Try.prog W = .ok (decide (a = a') && (decide (b = b') && decide (c = c'))) W := by
  obtain ⟨i, hi, _⟩ := Option.map_eq_some_iff.1 i_info
  have h3 := Try.underlying3
  rw [run_equalIn_array (P := Try.prog) W 9998 _ _ Try.underlying36 hi, cells3]
  simp only [List.range, List.range.loop, Op.eqItems]
  go_simp
  repeat' split
  all_goals simp_all
/-- '==' and '!=' of two nodes. -/
def Tm.sm (x y : Tm.Nd) : Bool := decide (x = y)
theorem run_eql (op v n a b c op' v' n' a' b' c' : Int) (W : World) :
    (binOp .eql 38 (.agg #[.int .i64 op, .int .i64 v, .int .u64 n, .int .i64 a, .int .i64 b, .int .i64 c]) (.agg #[.int .i64 op', .int .i64 v', .int .u64 n', .int .i64 a', .int .i64 b', .int .i64 c'])).run Try.prog W =
      .ok (.bool (Tm.sm ⟨op, v, n, a, b, c⟩ ⟨op', v', n', a', b', c'⟩)) W := by
  have h := Try.underlying38
  have h36 := Try.underlying36
  have h3 := run_eq3 a b c a' b' c'
  unfold Tm.sm
  go_simp
  repeat' split
  all_goals simp_all
theorem run_neq (op v n a b c op' v' n' a' b' c' : Int) (W : World) :
    (binOp .neq 38 (.agg #[.int .i64 op, .int .i64 v, .int .u64 n, .int .i64 a, .int .i64 b, .int .i64 c]) (.agg #[.int .i64 op', .int .i64 v', .int .u64 n', .int .i64 a', .int .i64 b', .int .i64 c'])).run Try.prog W =
      .ok (.bool (!Tm.sm ⟨op, v, n, a, b, c⟩ ⟨op', v', n', a', b', c'⟩)) W := by
  have h := Try.underlying38
  have h36 := Try.underlying36
  have h3 := run_eq3 a b c a' b' c'
  unfold Tm.sm
  go_simp
  repeat' split
  all_goals simp_all
  all_goals omega

def Tm.find (X : List Tm.Nd) (nd : Tm.Nd) : Int := if nd ∈ X then (X.idxOf nd : Int) else -1
def Tm.Not (X : List Tm.Nd) (nd : Tm.Nd) (k : Nat) : Prop := ∀ j, j < k → X.getD j Tm.z ≠ nd
theorem Tm.idx_at : ∀ {X : List Tm.Nd} {nd : Tm.Nd} {k : Nat}, k < X.length → X.getD k Tm.z = nd → Tm.Not X nd k → nd ∈ X ∧ X.idxOf nd = k
  | [], _, _, h, _, _ => absurd h (by simp)
  | x :: r, nd, 0, _, he, _ => by
    have he : x = nd := he
    subst he
    simp
  | x :: r, nd, k + 1, h, he, hn => by
    have h0 : x ≠ nd := hn 0 (by omega)
    obtain ⟨h1, h2⟩ := Tm.idx_at (X := r) (nd := nd) (k := k) (by simpa using h) he (fun j hj => hn (j + 1) (by omega))
    refine ⟨List.mem_cons_of_mem _ h1, ?_⟩
    rw [List.idxOf_cons, h2]
    have : (x == nd) = false := by simpa using h0
    rw [this]
    rfl
theorem Tm.find_at {X : List Tm.Nd} {nd : Tm.Nd} {k : Nat} (h : k < X.length) (he : X.getD k Tm.z = nd) (hn : Tm.Not X nd k) : Tm.find X nd = k := by
  obtain ⟨h1, h2⟩ := Tm.idx_at h he hn
  rw [Tm.find, if_pos h1, h2]
theorem Tm.find_no {X : List Tm.Nd} {nd : Tm.Nd} (hn : Tm.Not X nd X.length) : Tm.find X nd = -1 := by
  rw [Tm.find, if_neg fun h => ?_]
  obtain ⟨i, hi, e⟩ := List.mem_iff_getElem.1 h
  exact hn i hi (by rw [List.getD_eq_getElem?_getD, List.getElem?_eq_getElem hi]; exact e)

set_option maxRecDepth 20000 in
set_option maxHeartbeats 2000000 in
theorem find_any (A : Option Addr) (len cap : Nat) (X : List Tm.Nd) (nd : Tm.Nd) (w : World) (hx : NdSl w A len cap X) :
    Calls Try.prog 28 #[.slice A len cap, ndv nd] w fun e w' => e = .returned (.int .i64 (Tm.find X nd)) ∧ Below w.heap.size w w' := by
  have hcl := hx.nd.hle
  have hcm := hx.nd.hcap
  unfold maxLen at hcm
  have HX := Lib.hid hx
  have HL := Lib.hid hx.hlen
  have HBX := Lib.hid (Bx.new w nd)
  have HB := Lib.hid (Below.box w (.cells #[.int .i64 nd.op, .int .i64 nd.w, .int .u64 nd.n, .int .i64 nd.a, .int .i64 nd.b, .int .i64 nd.c] 38))
  have HSZ := Lib.hid (show w.heap.size < (w.alloc (.cells #[.int .i64 nd.op, .int .i64 nd.w, .int .u64 nd.n, .int .i64 nd.a, .int .i64 nd.b, .int .i64 nd.c] 38)).heap.size by simp)
  clear hx
  obtain ⟨op, v, n, a, b, c⟩ := nd
  dsimp only [ndv] at *
  go_enter Try.func28, Try.ntmps28
  go_wp2
  go_loopw [5] (fun t wr => ∃ k : Nat, k ≤ len ∧ t = .int .i64 k ∧ Below w.heap.size w wr ∧ Bx wr w.heap.size ⟨op, v, n, a, b, c⟩ ∧ Tm.Not X ⟨op, v, n, a, b, c⟩ k) (fun t _ => len - (intOf t).toNat)
  case atStart => exact ⟨0, Nat.zero_le _, rfl, HB.out, HBX.out, fun j hj => absurd hj (by omega)⟩
  case round =>
    obtain ⟨k, hk, rfl, hbw, hbx, hnot⟩ := hrel
    have HBW := Lib.hid hbw
    have HBXr := Lib.hid hbx
    have HNT := Lib.hid hnot
    clear hnot
    by_cases hlt : k < len
    · obtain ⟨bb, oo, rfl, hbb, hxx⟩ := HX.out.nd.mem (by omega)
      obtain ⟨x0, x1, x2, x3, x4, x5⟩ := (hxx k hlt).keep (fun o => hbw.cell (p := ⟨bb, o, none⟩) hbb)
      obtain ⟨b0, b1, b2, b3, b4, b5⟩ := hbx
      dsimp only at b0 b1 b2 b3 b4 b5
      have hk1 : (k : Int) < len := by omega
      have hk0 : (0 : Int) ≤ k := by omega
      obtain ⟨md, hmd⟩ : ∃ md, X.getD k Tm.z = md := ⟨_, rfl⟩
      rw [hmd] at x0 x1 x2 x3 x4 x5
      have HMD := Lib.hid hmd
      clear hbw hxx hmd
      obtain ⟨op', v', n', a', b', c'⟩ := md
      dsimp only at x0 x1 x2 x3 x4 x5
      have heq := run_eql op' v' n' a' b' c' op v n a b c
      by_cases hs : (⟨op', v', n', a', b', c'⟩ : Tm.Nd) = ⟨op, v, n, a, b, c⟩
      · have HS := Lib.hid hs
        have hsm : Tm.sm ⟨op', v', n', a', b', c'⟩ ⟨op, v, n, a, b, c⟩ = true := decide_eq_true hs
        rw [hsm] at heq
        clear hs hsm
        go_wp2_with fail
        go_quiet (fail)
        go_wp2
        go_ret
        exact ⟨ret_int (Tm.find_at (by have := HL.out; omega) (HMD.out.trans HS.out) HNT.out).symm, below_drewN HBW.out _⟩
      · have HS := Lib.hid hs
        have hsm : Tm.sm ⟨op', v', n', a', b', c'⟩ ⟨op, v, n, a, b, c⟩ = false := decide_eq_false hs
        rw [hsm] at heq
        clear hs hsm
        go_wp2_with fail
        go_quiet (fail)
        go_wp2
        go_roundw
        case rel =>
          refine ⟨k + 1, by omega, by go_num, below_drewN HBW.out _, HBXr.out.keep rfl, fun j hj => ?_⟩
          rcases Nat.lt_succ_iff_lt_or_eq.1 hj with h1 | h1
          · exact HNT.out j h1
          · rw [h1, HMD.out]; exact HS.out
        case measure => simp [intOf]; omega
    · have hke : k = len := by omega
      subst hke
      clear hbw hbx
      go_wp2
      go_ret
      exact ⟨ret_int (Tm.find_no (by rw [HL.out]; exact HNT.out)).symm, HBW.out⟩

def Tm.Eq (X Y : List Tm.Nd) (k : Nat) : Prop := ∀ j, j < k → X.getD j Tm.z = Y.getD j Tm.z
theorem Tm.eq_all {X Y : List Tm.Nd} (hl : X.length = Y.length) (h : Tm.Eq X Y X.length) : X = Y := by
  apply List.ext_getElem hl
  intro i h1 h2
  have := h i h1
  rwa [List.getD_eq_getElem?_getD, List.getD_eq_getElem?_getD, List.getElem?_eq_getElem h1, List.getElem?_eq_getElem h2] at this

set_option maxRecDepth 20000 in
set_option maxHeartbeats 2000000 in
theorem same_any (A : Option Addr) (len cap : Nat) (X : List Tm.Nd) (A' : Option Addr) (len' cap' : Nat) (Y : List Tm.Nd) (w : World) (hx : NdSl w A len cap X) (hy : NdSl w A' len' cap' Y) :
    Calls Try.prog 20 #[.slice A len cap, .slice A' len' cap'] w fun e w' => e = .returned (.bool (decide (X = Y))) ∧ ∃ n, w' = w.drewN n := by
  have hcl := hx.nd.hle
  have hcm := hx.nd.hcap
  have hcl' := hy.nd.hle
  have hcm' := hy.nd.hcap
  unfold maxLen at hcm hcm'
  have HX := Lib.hid hx
  have HY := Lib.hid hy
  have HL := Lib.hid hx.hlen
  have HL' := Lib.hid hy.hlen
  clear hx hy
  by_cases hll : len = len'
  · have hne : ((len : Int) != len') = false := by simp [hll]
    subst hll
    go_enter Try.func20, Try.ntmps20
    go_wp2
    go_loopw [5] (fun t wr => ∃ k : Nat, k ≤ len ∧ t = .int .i64 k ∧ (∃ n, wr = w.drewN n) ∧ Tm.Eq X Y k) (fun t _ => len - (intOf t).toNat)
    case atStart => exact ⟨0, Nat.zero_le _, rfl, ⟨0, rfl⟩, fun j hj => absurd hj (by omega)⟩
    case round =>
      obtain ⟨k, hk, rfl, ⟨nn, rfl⟩, hnot⟩ := hrel
      have HNT := Lib.hid hnot
      clear hnot
      by_cases hlt : k < len
      · obtain ⟨bb, oo, rfl, hbb, hxx⟩ := HX.out.nd.mem (by omega)
        obtain ⟨bb', oo', rfl, hbb', hyy⟩ := HY.out.nd.mem (by omega)
        obtain ⟨x0, x1, x2, x3, x4, x5⟩ := hxx k hlt
        obtain ⟨y0, y1, y2, y3, y4, y5⟩ := hyy k hlt
        have hk1 : (k : Int) < len := by omega
        have hk0 : (0 : Int) ≤ k := by omega
        obtain ⟨md, hmd⟩ : ∃ md, X.getD k Tm.z = md := ⟨_, rfl⟩
        obtain ⟨nd, hnd⟩ : ∃ nd, Y.getD k Tm.z = nd := ⟨_, rfl⟩
        rw [hmd] at x0 x1 x2 x3 x4 x5
        rw [hnd] at y0 y1 y2 y3 y4 y5
        have HMD := Lib.hid hmd
        have HND := Lib.hid hnd
        clear hxx hyy hmd hnd
        obtain ⟨op', v', n', a', b', c'⟩ := md
        obtain ⟨op, v, n, a, b, c⟩ := nd
        dsimp only at x0 x1 x2 x3 x4 x5 y0 y1 y2 y3 y4 y5
        have heq := run_neq op' v' n' a' b' c' op v n a b c
        by_cases hs : (⟨op', v', n', a', b', c'⟩ : Tm.Nd) = ⟨op, v, n, a, b, c⟩
        · have HS := Lib.hid hs
          have hsm : Tm.sm ⟨op', v', n', a', b', c'⟩ ⟨op, v, n, a, b, c⟩ = true := decide_eq_true hs
          rw [hsm] at heq
          clear hs hsm
          go_wp2_with fail
          go_quiet (fail)
          go_wp2
          go_roundw
          case rel =>
            refine ⟨k + 1, by omega, by go_num, ⟨nn + nq, ?_⟩, fun j hj => ?_⟩
            · first | rfl | rw [World.drewN_drewN]
            · rcases Nat.lt_succ_iff_lt_or_eq.1 hj with h1 | h1
              · exact HNT.out j h1
              · rw [h1, HMD.out, HND.out]; exact HS.out
          case measure => simp [intOf]; omega
        · have HS := Lib.hid hs
          have hsm : Tm.sm ⟨op', v', n', a', b', c'⟩ ⟨op, v, n, a, b, c⟩ = false := decide_eq_false hs
          rw [hsm] at heq
          clear hs hsm
          go_wp2_with fail
          go_quiet (fail)
          go_wp2
          go_ret
          refine ⟨ret_bool (decide_eq_false fun h => HS.out ?_).symm, nn + nq, ?_⟩
          · rw [← HMD.out, ← HND.out, h]
          · first | rfl | rw [World.drewN_drewN]
      · have hke : k = len := by omega
        subst hke
        go_wp2
        go_ret
        exact ⟨ret_bool (decide_eq_true (Tm.eq_all (by rw [HL.out, HL'.out]) (by rw [HL.out]; exact HNT.out))).symm, nn, rfl⟩
  · have hne : ((len : Int) != len') = true := by simp; omega
    have HN := Lib.hid hll
    clear hll
    go_enter Try.func20, Try.ntmps20
    go_wp2
    go_ret
    exact ⟨ret_bool (decide_eq_false fun h => HN.out (by rw [← HL.out, ← HL'.out, h])).symm, 0, rfl⟩
end Go.Proofs.Ytfehmbcgehflmaa
