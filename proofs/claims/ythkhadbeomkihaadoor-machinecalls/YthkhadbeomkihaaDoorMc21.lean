/-
  Strings of bytes, rows of numbers, registers and traces compared; contracts of Ints and SameTrace.
-/
import Derived.Test.YthkhadbeomkihaaDoorMcOp
import Derived.ChangeKeysEq
namespace Go.Proofs.YthkhadbeomkihaaDoor
set_option maxRecDepth 100000
open Go.RowKit

/-- A slice of bytes as a string. -/
theorem by_str {w : World} {A : Option Addr} {n cap : Nat} {xs : List Int} (h : BySl w A n cap xs) : (convert 22 9 (.slice A n cap)).run Tryd.prog w = .ok (.string (strOfNums xs)) w := by
  rcases Nat.eq_zero_or_pos n with h0 | h0
  · subst h0
    obtain rfl : xs = [] := List.eq_nil_of_length_eq_zero h.hlen
    rw [run_convert_bytes_string w 22 9 5 _ 0 cap Tryd.underlying22 Tryd.underlying5 Tryd.underlying9]
    cases A <;> simp [Conv.bytesToString, loadCells]
    all_goals rfl
  · obtain ⟨b, o, rfl, _, hx⟩ := h.mem h0
    exact run_convert_bytes_arg w 22 5 Tryd.underlying22 Tryd.underlying5 b o n cap xs h.hlen (fun i hi => hx.at0 i (by rw [h.hlen]; exact hi)) 9 Tryd.underlying9

theorem eql_str (S L : ByteArray) (W : World) : (binOp .eql 9 (.string S) (.string L)).run Tryd.prog W = .ok (.bool (decide (S = L))) W := by
  have h := Tryd.underlying9
  go_simp
  by_cases e : S = L
  · subst e; simp
  · have : (S.toList == L.toList) = false := by
      rw [Bool.eq_false_iff]
      exact fun h => e (bytes_of_beq h)
    simp [e, this]
theorem strOfNums_inj {xs ys : List Int} (hx : ∀ x ∈ xs, 0 ≤ x ∧ x ≤ 255) (hy : ∀ y ∈ ys, 0 ≤ y ∧ y ≤ 255) (h : strOfNums xs = strOfNums ys) : xs = ys := by
  have h' : (xs.map fun n => UInt8.ofNat n.toNat) = ys.map fun n => UInt8.ofNat n.toNat := by
    have := congrArg (fun s : ByteArray => s.data.toList) h
    simpa [strOfNums] using this
  clear h
  induction xs generalizing ys with
  | nil => cases ys with
    | nil => rfl
    | cons => simp at h'
  | cons x xs ih => cases ys with
    | nil => simp at h'
    | cons y ys =>
      simp only [List.map_cons, List.cons.injEq] at h'
      have e := congrArg UInt8.toNat h'.1
      have b1 := hx x (by simp)
      have b2 := hy y (by simp)
      simp at e
      rw [ih (fun z hz => hx z (by simp [hz])) (fun z hz => hy z (by simp [hz])) h'.2]
      have : x = y := by omega
      rw [this]

namespace Im
theorem list_eq {α : Type} {z : α} {xs ys : List α} (hl : xs.length = ys.length) (h : ∀ i, i < xs.length → xs.getD i z = ys.getD i z) : xs = ys := by
  apply List.ext_getElem?
  intro i
  rcases Nat.lt_or_ge i xs.length with hi | hi
  · have := h i hi
    rw [List.getD_eq_getElem?_getD, List.getD_eq_getElem?_getD, List.getElem?_eq_getElem hi, List.getElem?_eq_getElem (by omega)] at this
    rw [List.getElem?_eq_getElem hi, List.getElem?_eq_getElem (by omega)]
    exact congrArg some this
  · rw [List.getElem?_eq_none hi, List.getElem?_eq_none (by omega)]
end Im

set_option maxHeartbeats 800000 in
theorem ints_any (A A' : Option Addr) (n c n' c' : Nat) (xs ys : List Int) (w : World) (hx : InSl w A n c xs) (hy : InSl w A' n' c' ys) :
    Calls Tryd.prog 24 #[.slice A n c, .slice A' n' c'] w fun e w' => e = .returned (.bool (decide (xs = ys))) ∧ Below w.heap.size w w' := by
  have hxl := hx.hlen
  have hyl := hy.hlen
  have hm := Nat.le_trans hx.hle hx.hcap
  have hm' := Nat.le_trans hy.hle hy.hcap
  unfold maxLen at hm hm'
  by_cases hn : n = n'
  · subst hn
    have HX := Lib.hid hx
    have HY := Lib.hid hy
    have HXL := Lib.hid hxl
    have HYL := Lib.hid hyl
    clear hx hy hxl hyl
    go_enter Tryd.func24, Tryd.ntmps24
    go_wp2
    go_loopw [5] (fun i wr => ∃ k : Nat, k ≤ n ∧ i = .int .i64 k ∧ Below w.heap.size w wr ∧ ∀ j, j < k → xs.getD j 0 = ys.getD j 0) (fun i _ => n - (intOf i).toNat)
    case atStart => exact ⟨0, by omega, rfl, Below.refl _ _, fun j hj => absurd hj (by omega)⟩
    case round =>
      obtain ⟨k, hk, rfl, hbr, hall⟩ := hrel
      have HR := Lib.hid hbr
      have HA := Lib.hid hall
      clear hbr hall
      by_cases hlt : k < n
      · obtain ⟨b, o, rfl, _, hcx⟩ := (HX.out.below HR.out).mem (by omega)
        obtain ⟨b', o', rfl, _, hcy⟩ := (HY.out.below HR.out).mem (by omega)
        have d0 := hcx k hlt
        have d1 := hcy k hlt
        have hki : (k : Int) < n := by omega
        have hz : ∃ z0 z1, xs.getD k 0 = z0 ∧ ys.getD k 0 = z1 := ⟨_, _, rfl, rfl⟩
        obtain ⟨z0, z1, e0, e1⟩ := hz
        rw [e0] at d0
        rw [e1] at d1
        have E0 := Lib.hid e0
        have E1 := Lib.hid e1
        clear e0 e1 hcx hcy
        by_cases hz : z0 = z1
        · have hz' : (z0 != z1) = false := by simpa using hz
          go_wp2_with fail
          go_quiet (fail)
          go_wp2
          go_roundw
          case rel =>
            refine ⟨k + 1, by omega, by go_num, below_drewN HR.out nq, fun j hj => ?_⟩
            rcases Nat.lt_succ_iff_lt_or_eq.1 hj with h | h
            · exact HA.out j h
            · rw [h, E0.out, E1.out]; exact hz
          case measure => simp [intOf]; omega
        · have hz' : (z0 != z1) = true := by simpa using hz
          go_wp2_with fail
          go_quiet (fail)
          go_wp2
          go_ret
          refine ⟨ret_bool (decide_eq_false ?_).symm, below_drewN HR.out nq⟩
          intro e
          rw [← E0.out, ← E1.out, e] at hz
          exact hz rfl
      · go_wp2
        go_ret
        refine ⟨ret_bool (decide_eq_true ?_).symm, HR.out⟩
        exact Im.list_eq (z := 0) (by rw [HXL.out, HYL.out]) fun i hi => HA.out i (by have := HXL.out; omega)
  · have hne : ((n : Int) != (n' : Int)) = true := by
      have : ¬ (n : Int) = n' := by omega
      simpa using this
    have hq : decide (xs = ys) = false := decide_eq_false fun e => hn (by rw [← hxl, ← hyl, e])
    rw [hq]
    clear hx hy hxl hyl
    go_enter Tryd.func24, Tryd.ntmps24
    go_wp2
    go_ret
    exact ⟨rfl, Below.refl _ _⟩


theorem run_eql_regs (r0 r1 r2 r3 r4 r5 r6 r7 q0 q1 q2 q3 q4 q5 q6 q7 : Int) (W : World) :
    (binOp .eql 30 (.agg #[.int .u64 r0, .int .u64 r1, .int .u64 r2, .int .u64 r3, .int .u64 r4, .int .u64 r5, .int .u64 r6, .int .u64 r7]) (.agg #[.int .u64 q0, .int .u64 q1, .int .u64 q2, .int .u64 q3, .int .u64 q4, .int .u64 q5, .int .u64 q6, .int .u64 q7])).run Tryd.prog W =
      .ok (.bool (decide (r0 = q0 ∧ r1 = q1 ∧ r2 = q2 ∧ r3 = q3 ∧ r4 = q4 ∧ r5 = q5 ∧ r6 = q6 ∧ r7 = q7))) W := by
  obtain ⟨i, hi⟩ : ∃ i, Tryd.prog.info? 29 = some i := Option.isSome_iff_exists.1 (by kernel_rfl)
  have h29 := Tryd.underlying29
  have hk : (Op.equalIn 10000 30 (.agg #[.int .u64 r0, .int .u64 r1, .int .u64 r2, .int .u64 r3, .int .u64 r4, .int .u64 r5, .int .u64 r6, .int .u64 r7]) (.agg #[.int .u64 q0, .int .u64 q1, .int .u64 q2, .int .u64 q3, .int .u64 q4, .int .u64 q5, .int .u64 q6, .int .u64 q7])).run Tryd.prog W =
      .ok (decide (r0 = q0 ∧ r1 = q1 ∧ r2 = q2 ∧ r3 = q3 ∧ r4 = q4 ∧ r5 = q5 ∧ r6 = q6 ∧ r7 = q7)) W := by
    rw [run_equalIn_array (P := Tryd.prog) W 9999 _ _ Tryd.underlying30 hi, show Tryd.prog.cellsOf 29 = 1 by kernel_rfl]
    simp only [List.range, List.range.loop, Op.eqItems]
    go_simp
    repeat' split
    all_goals simp_all
  simp only [binOp]
  simp [Op.equal, Op.maxDepth, hk]

def rgB (a b : List Int) : Bool := decide (a.getD 0 0 = b.getD 0 0 ∧ a.getD 1 0 = b.getD 1 0 ∧ a.getD 2 0 = b.getD 2 0 ∧ a.getD 3 0 = b.getD 3 0 ∧ a.getD 4 0 = b.getD 4 0 ∧ a.getD 5 0 = b.getD 5 0 ∧ a.getD 6 0 = b.getD 6 0 ∧ a.getD 7 0 = b.getD 7 0)
/-- Are two traces the same? -/
def trB (a b : List Int × Int × List Int × List Int) : Bool := decide (a.1 = b.1) && decide (a.2.1 = b.2.1) && rgB a.2.2.1 b.2.2.1 && decide (a.2.2.2 = b.2.2.2)

set_option maxRecDepth 20000 in
set_option maxHeartbeats 3200000 in
theorem sameTrace_any (p1 : Option Addr) (n1 c1 : Nat) (e1 : Int) (m1 : Option Addr) (l1 d1 : Nat) (a : List Int × Int × List Int × List Int) (p2 : Option Addr) (n2 c2 : Nat) (e2 : Int) (m2 : Option Addr) (l2 d2 : Nat) (b : List Int × Int × List Int × List Int) (w : World)
    (h1 : InSl w p1 n1 c1 a.1) (h2 : InSl w p2 n2 c2 b.1) (k1 : BySl w m1 l1 d1 a.2.2.2) (k2 : BySl w m2 l2 d2 b.2.2.2) (f1 : e1 = a.2.1) (f2 : e2 = b.2.1) :
    Calls Tryd.prog 16 #[.agg (trC (.slice p1 n1 c1) e1 a.2.2.1 (.slice m1 l1 d1)), .agg (trC (.slice p2 n2 c2) e2 b.2.2.1 (.slice m2 l2 d2))] w fun e w' => e = .returned (.bool (trB a b)) ∧ Below w.heap.size w w' := by
  obtain ⟨A1, en1, rg1, mm1⟩ := a
  obtain ⟨A2, en2, rg2, mm2⟩ := b
  simp only at h1 h2 k1 k2 f1 f2
  subst f1 f2
  have hin : ∀ W, Below w.heap.size w W → Calls Tryd.prog 24 #[.slice p1 n1 c1, .slice p2 n2 c2] W fun e w' => e = .returned (.bool (decide (A1 = A2))) ∧ Below W.heap.size W w' := fun W hW => ints_any _ _ _ _ _ _ _ _ W (h1.below hW) (h2.below hW)
  have hs1 : ∀ W, Below w.heap.size w W → (convert 22 9 (.slice m1 l1 d1)).run Tryd.prog W = .ok (.string (strOfNums mm1)) W := fun W hW => by_str (k1.below hW)
  have hs2 : ∀ W, Below w.heap.size w W → (convert 22 9 (.slice m2 l2 d2)).run Tryd.prog W = .ok (.string (strOfNums mm2)) W := fun W hW => by_str (k2.below hW)
  have hq : decide (mm1 = mm2) = decide (strOfNums mm1 = strOfNums mm2) := decide_eq_decide.2 ⟨fun e => by rw [e], fun e => strOfNums_inj (fun x hx => Im.mem_isB k1.isB hx) (fun x hx => Im.mem_isB k2.isB hx) e⟩
  unfold trB rgB
  simp only
  rw [hq]
  have hrr := run_eql_regs (rg1.getD 0 0) (rg1.getD 1 0) (rg1.getD 2 0) (rg1.getD 3 0) (rg1.getD 4 0) (rg1.getD 5 0) (rg1.getD 6 0) (rg1.getD 7 0) (rg2.getD 0 0) (rg2.getD 1 0) (rg2.getD 2 0) (rg2.getD 3 0) (rg2.getD 4 0) (rg2.getD 5 0) (rg2.getD 6 0) (rg2.getD 7 0)
  simp only [trC]
  generalize rg1.getD 0 0 = r0 at *
  generalize rg1.getD 1 0 = r1 at *
  generalize rg1.getD 2 0 = r2 at *
  generalize rg1.getD 3 0 = r3 at *
  generalize rg1.getD 4 0 = r4 at *
  generalize rg1.getD 5 0 = r5 at *
  generalize rg1.getD 6 0 = r6 at *
  generalize rg1.getD 7 0 = r7 at *
  generalize rg2.getD 0 0 = q0 at *
  generalize rg2.getD 1 0 = q1 at *
  generalize rg2.getD 2 0 = q2 at *
  generalize rg2.getD 3 0 = q3 at *
  generalize rg2.getD 4 0 = q4 at *
  generalize rg2.getD 5 0 = q5 at *
  generalize rg2.getD 6 0 = q6 at *
  generalize rg2.getD 7 0 = q7 at *
  generalize decide (r0 = q0 ∧ r1 = q1 ∧ r2 = q2 ∧ r3 = q3 ∧ r4 = q4 ∧ r5 = q5 ∧ r6 = q6 ∧ r7 = q7) = rb at *
  generalize strOfNums mm1 = S at *
  generalize strOfNums mm2 = L at *
  have hsl : decide (S = L) = (S.toList == L.toList) := by
    by_cases e : S = L
    · subst e; simp
    · have : (S.toList == L.toList) = false := by
        rw [Bool.eq_false_iff]
        exact fun h => e (bytes_of_beq h)
      simp [e, this]
  rw [hsl]
  generalize decide (A1 = A2) = pb at *
  have HIN := Lib.hid hin
  have HS1 := Lib.hid hs1
  have HS2 := Lib.hid hs2
  clear hin hs1 hs2 h1 h2 k1 k2 hq hsl
  go_enter Tryd.func16, Tryd.ntmps16
  go_wp2_with fail
  have hB : Below w.heap.size w ((w.alloc (.cells #[.slice p1 n1 c1, .int .i64 e1, .int .u64 r0, .int .u64 r1, .int .u64 r2, .int .u64 r3, .int .u64 r4, .int .u64 r5, .int .u64 r6, .int .u64 r7, .slice m1 l1 d1] 32)).alloc (.cells #[.slice p2 n2 c2, .int .i64 e2, .int .u64 q0, .int .u64 q1, .int .u64 q2, .int .u64 q3, .int .u64 q4, .int .u64 q5, .int .u64 q6, .int .u64 q7, .slice m2 l2 d2] 32)) := ((Below.refl _ _).alloc (Nat.le_refl _) _).alloc (by simp) _
  have g1 : ((w.alloc (.cells #[.slice p1 n1 c1, .int .i64 e1, .int .u64 r0, .int .u64 r1, .int .u64 r2, .int .u64 r3, .int .u64 r4, .int .u64 r5, .int .u64 r6, .int .u64 r7, .slice m1 l1 d1] 32)).alloc (.cells #[.slice p2 n2 c2, .int .i64 e2, .int .u64 q0, .int .u64 q1, .int .u64 q2, .int .u64 q3, .int .u64 q4, .int .u64 q5, .int .u64 q6, .int .u64 q7, .slice m2 l2 d2] 32)).heap[w.heap.size]? = some (.cells #[.slice p1 n1 c1, .int .i64 e1, .int .u64 r0, .int .u64 r1, .int .u64 r2, .int .u64 r3, .int .u64 r4, .int .u64 r5, .int .u64 r6, .int .u64 r7, .slice m1 l1 d1] 32) := ((Below.box _ _).block _ (by simp)).trans (heap_newM rfl)
  have g2 : ((w.alloc (.cells #[.slice p1 n1 c1, .int .i64 e1, .int .u64 r0, .int .u64 r1, .int .u64 r2, .int .u64 r3, .int .u64 r4, .int .u64 r5, .int .u64 r6, .int .u64 r7, .slice m1 l1 d1] 32)).alloc (.cells #[.slice p2 n2 c2, .int .i64 e2, .int .u64 q0, .int .u64 q1, .int .u64 q2, .int .u64 q3, .int .u64 q4, .int .u64 q5, .int .u64 q6, .int .u64 q7, .slice m2 l2 d2] 32)).heap[w.heap.size + 1]? = some (.cells #[.slice p2 n2 c2, .int .i64 e2, .int .u64 q0, .int .u64 q1, .int .u64 q2, .int .u64 q3, .int .u64 q4, .int .u64 q5, .int .u64 q6, .int .u64 q7, .slice m2 l2 d2] 32) := heap_newM (by simp)
  have hz : ((w.alloc (.cells #[.slice p1 n1 c1, .int .i64 e1, .int .u64 r0, .int .u64 r1, .int .u64 r2, .int .u64 r3, .int .u64 r4, .int .u64 r5, .int .u64 r6, .int .u64 r7, .slice m1 l1 d1] 32)).alloc (.cells #[.slice p2 n2 c2, .int .i64 e2, .int .u64 q0, .int .u64 q1, .int .u64 q2, .int .u64 q3, .int .u64 q4, .int .u64 q5, .int .u64 q6, .int .u64 q7, .slice m2 l2 d2] 32)).heap.size = w.heap.size + 2 := by simp
  generalize (w.alloc (.cells #[.slice p1 n1 c1, .int .i64 e1, .int .u64 r0, .int .u64 r1, .int .u64 r2, .int .u64 r3, .int .u64 r4, .int .u64 r5, .int .u64 r6, .int .u64 r7, .slice m1 l1 d1] 32)).alloc (.cells #[.slice p2 n2 c2, .int .i64 e2, .int .u64 q0, .int .u64 q1, .int .u64 q2, .int .u64 q3, .int .u64 q4, .int .u64 q5, .int .u64 q6, .int .u64 q7, .slice m2 l2 d2] 32) = w1 at *
  refine (HIN.out _ hB).mono ?_
  rintro e v ⟨rfl, hb⟩
  have x1 := (hb.block _ (by omega)).trans g1
  have x2 := (hb.block _ (by omega)).trans g2
  have hBv := hB.trans (hb.mono hB.size)
  have t1_0 : v.cell? ⟨w.heap.size, 0, none⟩ = some (.slice p1 n1 c1) := row_cell x1 0
  have t1_1 : v.cell? ⟨w.heap.size, 1, none⟩ = some (.int .i64 e1) := row_cell x1 1
  have t1_2 : v.cell? ⟨w.heap.size, 2, none⟩ = some (.int .u64 r0) := row_cell x1 2
  have t1_3 : v.cell? ⟨w.heap.size, 3, none⟩ = some (.int .u64 r1) := row_cell x1 3
  have t1_4 : v.cell? ⟨w.heap.size, 4, none⟩ = some (.int .u64 r2) := row_cell x1 4
  have t1_5 : v.cell? ⟨w.heap.size, 5, none⟩ = some (.int .u64 r3) := row_cell x1 5
  have t1_6 : v.cell? ⟨w.heap.size, 6, none⟩ = some (.int .u64 r4) := row_cell x1 6
  have t1_7 : v.cell? ⟨w.heap.size, 7, none⟩ = some (.int .u64 r5) := row_cell x1 7
  have t1_8 : v.cell? ⟨w.heap.size, 8, none⟩ = some (.int .u64 r6) := row_cell x1 8
  have t1_9 : v.cell? ⟨w.heap.size, 9, none⟩ = some (.int .u64 r7) := row_cell x1 9
  have t1_10 : v.cell? ⟨w.heap.size, 10, none⟩ = some (.slice m1 l1 d1) := row_cell x1 10
  have t2_0 : v.cell? ⟨w.heap.size + 1, 0, none⟩ = some (.slice p2 n2 c2) := row_cell x2 0
  have t2_1 : v.cell? ⟨w.heap.size + 1, 1, none⟩ = some (.int .i64 e2) := row_cell x2 1
  have t2_2 : v.cell? ⟨w.heap.size + 1, 2, none⟩ = some (.int .u64 q0) := row_cell x2 2
  have t2_3 : v.cell? ⟨w.heap.size + 1, 3, none⟩ = some (.int .u64 q1) := row_cell x2 3
  have t2_4 : v.cell? ⟨w.heap.size + 1, 4, none⟩ = some (.int .u64 q2) := row_cell x2 4
  have t2_5 : v.cell? ⟨w.heap.size + 1, 5, none⟩ = some (.int .u64 q3) := row_cell x2 5
  have t2_6 : v.cell? ⟨w.heap.size + 1, 6, none⟩ = some (.int .u64 q4) := row_cell x2 6
  have t2_7 : v.cell? ⟨w.heap.size + 1, 7, none⟩ = some (.int .u64 q5) := row_cell x2 7
  have t2_8 : v.cell? ⟨w.heap.size + 1, 8, none⟩ = some (.int .u64 q6) := row_cell x2 8
  have t2_9 : v.cell? ⟨w.heap.size + 1, 9, none⟩ = some (.int .u64 q7) := row_cell x2 9
  have t2_10 : v.cell? ⟨w.heap.size + 1, 10, none⟩ = some (.slice m2 l2 d2) := row_cell x2 10
  have s1 := HS1.out v hBv
  have s2 := HS2.out v hBv
  have HBV := Lib.hid hBv
  clear hB g1 g2 hz hb x1 x2 hBv
  cases pb
  · go_wp2
    go_ret
    exact ⟨by simp, HBV.out⟩
  by_cases he : e1 ≠ e2
  · have he' : (e1 == e2) = false := by simpa using he
    have hd : decide (e1 = e2) = false := decide_eq_false he
    have HD := Lib.hid hd
    clear he hd
    go_wp2
    go_ret
    exact ⟨by rw [HD.out]; simp, HBV.out⟩
  · have he : e1 = e2 := Decidable.not_not.1 he
    subst he
    cases rb
    · go_wp2
      go_ret
      exact ⟨by simp, HBV.out⟩
    · go_wp2
      go_ret
      exact ⟨by simp, HBV.out⟩
end Go.Proofs.YthkhadbeomkihaaDoor
