/-
  Strings of bytes, rows of numbers, registers and traces compared; contracts of Ints and SameTrace.
  MachineBlind: what doesn't look at the input doesn't hang on it; the law's walk.
  MachineGoes: a run is made of steps, from the beginning; the law's walk.
-/
import Derived.Test.YtfhnigfghfmolaaDoorGG
import Derived.ChangeKeysEq
import Derived.Test.YtfhnigfghfmolaaDoorGH
set_option linter.unusedSimpArgs false
set_option linter.unusedVariables false
namespace Go.Proofs.YtfhnigfghfmolaaDoor
set_option maxRecDepth 100000
open Go.RowKit

/-- A slice of bytes as a string. -/
theorem by_str {w : World} {A : Option Addr} {n cap : Nat} {xs : List Int} (h : BySl w A n cap xs) : (convert 22 9 (.slice A n cap)).run Tryd.prog w = .ok (.string (strOfNums xs)) w := by
  rcases Nat.eq_zero_or_pos n with h0 | h0
  · subst h0
    obtain rfl : xs = [] := List.eq_nil_of_length_eq_zero h.hlen
    rw [run_convert_bytes_string w 22 9 5 _ 0 cap Tryd.underlying22 Tryd.underlying5 Tryd.underlying9]
    cases A <;> simp [Conv.bytesToString, loadCells]
    all_goals rfl
  · obtain ⟨b, o, rfl, _, hx⟩ := h.mem h0
    exact run_convert_bytes_arg w 22 5 Tryd.underlying22 Tryd.underlying5 b o n cap xs h.hlen (fun i hi => hx.at0 i (by rw [h.hlen]; exact hi)) 9 Tryd.underlying9

theorem eql_str (S L : ByteArray) (W : World) : (binOp .eql 9 (.string S) (.string L)).run Tryd.prog W = .ok (.bool (decide (S = L))) W := by
  have h := Tryd.underlying9
  go_simp
  by_cases e : S = L
  · subst e; simp
  · have : (S.toList == L.toList) = false := by
      rw [Bool.eq_false_iff]
      exact fun h => e (bytes_of_beq h)
    simp [e, this]
theorem strOfNums_inj {xs ys : List Int} (hx : ∀ x ∈ xs, 0 ≤ x ∧ x ≤ 255) (hy : ∀ y ∈ ys, 0 ≤ y ∧ y ≤ 255) (h : strOfNums xs = strOfNums ys) : xs = ys := by
  have h' : (xs.map fun n => UInt8.ofNat n.toNat) = ys.map fun n => UInt8.ofNat n.toNat := by
    have := congrArg (fun s : ByteArray => s.data.toList) h
    simpa [strOfNums] using this
  clear h
  induction xs generalizing ys with
  | nil => cases ys with
    | nil => rfl
    | cons => simp at h'
  | cons x xs ih => cases ys with
    | nil => simp at h'
    | cons y ys =>
      simp only [List.map_cons, List.cons.injEq] at h'
      have e := congrArg UInt8.toNat h'.1
      have b1 := hx x (by simp)
      have b2 := hy y (by simp)
      simp at e
      rw [ih (fun z hz => hx z (by simp [hz])) (fun z hz => hy z (by simp [hz])) h'.2]
      have : x = y := by omega
      rw [this]

namespace Im
theorem list_eq {α : Type} {z : α} {xs ys : List α} (hl : xs.length = ys.length) (h : ∀ i, i < xs.length → xs.getD i z = ys.getD i z) : xs = ys := by
  apply List.ext_getElem?
  intro i
  rcases Nat.lt_or_ge i xs.length with hi | hi
  · have := h i hi
    rw [List.getD_eq_getElem?_getD, List.getD_eq_getElem?_getD, List.getElem?_eq_getElem hi, List.getElem?_eq_getElem (by omega)] at this
    rw [List.getElem?_eq_getElem hi, List.getElem?_eq_getElem (by omega)]
    exact congrArg some this
  · rw [List.getElem?_eq_none hi, List.getElem?_eq_none (by omega)]
end Im

set_option maxHeartbeats 800000 in
theorem ints_any (A A' : Option Addr) (n c n' c' : Nat) (xs ys : List Int) (w : World) (hx : InSl w A n c xs) (hy : InSl w A' n' c' ys) :
    Calls Tryd.prog 24 #[.slice A n c, .slice A' n' c'] w fun e w' => e = .returned (.bool (decide (xs = ys))) ∧ Below w.heap.size w w' := by
  have hxl := hx.hlen
  have hyl := hy.hlen
  have hm := Nat.le_trans hx.hle hx.hcap
  have hm' := Nat.le_trans hy.hle hy.hcap
  unfold maxLen at hm hm'
  by_cases hn : n = n'
  · subst hn
    have HX := Lib.hid hx
    have HY := Lib.hid hy
    have HXL := Lib.hid hxl
    have HYL := Lib.hid hyl
    clear hx hy hxl hyl
    go_enter Tryd.func24, Tryd.ntmps24
    go_wp2
    go_loopw [5] (fun i wr => ∃ k : Nat, k ≤ n ∧ i = .int .i64 k ∧ Below w.heap.size w wr ∧ ∀ j, j < k → xs.getD j 0 = ys.getD j 0) (fun i _ => n - (intOf i).toNat)
    case atStart => exact ⟨0, by omega, rfl, Below.refl _ _, fun j hj => absurd hj (by omega)⟩
    case round =>
      obtain ⟨k, hk, rfl, hbr, hall⟩ := hrel
      have HR := Lib.hid hbr
      have HA := Lib.hid hall
      clear hbr hall
      by_cases hlt : k < n
      · obtain ⟨b, o, rfl, _, hcx⟩ := (HX.out.below HR.out).mem (by omega)
        obtain ⟨b', o', rfl, _, hcy⟩ := (HY.out.below HR.out).mem (by omega)
        have d0 := hcx k hlt
        have d1 := hcy k hlt
        have hki : (k : Int) < n := by omega
        have hz : ∃ z0 z1, xs.getD k 0 = z0 ∧ ys.getD k 0 = z1 := ⟨_, _, rfl, rfl⟩
        obtain ⟨z0, z1, e0, e1⟩ := hz
        rw [e0] at d0
        rw [e1] at d1
        have E0 := Lib.hid e0
        have E1 := Lib.hid e1
        clear e0 e1 hcx hcy
        by_cases hz : z0 = z1
        · have hz' : (z0 != z1) = false := by simpa using hz
          go_wp2_with fail
          go_quiet (fail)
          go_wp2
          go_roundw
          case rel =>
            refine ⟨k + 1, by omega, by go_num, below_drewN HR.out nq, fun j hj => ?_⟩
            rcases Nat.lt_succ_iff_lt_or_eq.1 hj with h | h
            · exact HA.out j h
            · rw [h, E0.out, E1.out]; exact hz
          case measure => simp [intOf]; omega
        · have hz' : (z0 != z1) = true := by simpa using hz
          go_wp2_with fail
          go_quiet (fail)
          go_wp2
          go_ret
          refine ⟨ret_bool (decide_eq_false ?_).symm, below_drewN HR.out nq⟩
          intro e
          rw [← E0.out, ← E1.out, e] at hz
          exact hz rfl
      · go_wp2
        go_ret
        refine ⟨ret_bool (decide_eq_true ?_).symm, HR.out⟩
        exact Im.list_eq (z := 0) (by rw [HXL.out, HYL.out]) fun i hi => HA.out i (by have := HXL.out; omega)
  · have hne : ((n : Int) != (n' : Int)) = true := by
      have : ¬ (n : Int) = n' := by omega
      simpa using this
    have hq : decide (xs = ys) = false := decide_eq_false fun e => hn (by rw [← hxl, ← hyl, e])
    rw [hq]
    clear hx hy hxl hyl
    go_enter Tryd.func24, Tryd.ntmps24
    go_wp2
    go_ret
    exact ⟨rfl, Below.refl _ _⟩


theorem run_eql_regs (r0 r1 r2 r3 r4 r5 r6 r7 q0 q1 q2 q3 q4 q5 q6 q7 : Int) (W : World) :
    (binOp .eql 30 (.agg #[.int .u64 r0, .int .u64 r1, .int .u64 r2, .int .u64 r3, .int .u64 r4, .int .u64 r5, .int .u64 r6, .int .u64 r7]) (.agg #[.int .u64 q0, .int .u64 q1, .int .u64 q2, .int .u64 q3, .int .u64 q4, .int .u64 q5, .int .u64 q6, .int .u64 q7])).run Tryd.prog W =
      .ok (.bool (decide (r0 = q0 ∧ r1 = q1 ∧ r2 = q2 ∧ r3 = q3 ∧ r4 = q4 ∧ r5 = q5 ∧ r6 = q6 ∧ r7 = q7))) W := by
  obtain ⟨i, hi⟩ : ∃ i, Tryd.prog.info? 29 = some i := Option.isSome_iff_exists.1 (by kernel_rfl)
  have h29 := Tryd.underlying29
  have hk : (Op.equalIn 10000 30 (.agg #[.int .u64 r0, .int .u64 r1, .int .u64 r2, .int .u64 r3, .int .u64 r4, .int .u64 r5, .int .u64 r6, .int .u64 r7]) (.agg #[.int .u64 q0, .int .u64 q1, .int .u64 q2, .int .u64 q3, .int .u64 q4, .int .u64 q5, .int .u64 q6, .int .u64 q7])).run Tryd.prog W =
      .ok (decide (r0 = q0 ∧ r1 = q1 ∧ r2 = q2 ∧ r3 = q3 ∧ r4 = q4 ∧ r5 = q5 ∧ r6 = q6 ∧ r7 = q7)) W := by
    rw [run_equalIn_array (P := Tryd.prog) W 9999 _ _ Tryd.underlying30 hi, show Tryd.prog.cellsOf 29 = 1 by kernel_rfl]
    simp only [List.range, List.range.loop, Op.eqItems]
    go_simp
    repeat' split
    all_goals simp_all
  simp only [binOp]
  simp [Op.equal, Op.maxDepth, hk]

def rgB (a b : List Int) : Bool := decide (a.getD 0 0 = b.getD 0 0 ∧ a.getD 1 0 = b.getD 1 0 ∧ a.getD 2 0 = b.getD 2 0 ∧ a.getD 3 0 = b.getD 3 0 ∧ a.getD 4 0 = b.getD 4 0 ∧ a.getD 5 0 = b.getD 5 0 ∧ a.getD 6 0 = b.getD 6 0 ∧ a.getD 7 0 = b.getD 7 0)
/-- Are two traces the same? -/
def trB (a b : List Int × Int × List Int × List Int) : Bool := decide (a.1 = b.1) && decide (a.2.1 = b.2.1) && rgB a.2.2.1 b.2.2.1 && decide (a.2.2.2 = b.2.2.2)

set_option maxRecDepth 20000 in
set_option maxHeartbeats 3200000 in
theorem sameTrace_any (p1 : Option Addr) (n1 c1 : Nat) (e1 : Int) (m1 : Option Addr) (l1 d1 : Nat) (a : List Int × Int × List Int × List Int) (p2 : Option Addr) (n2 c2 : Nat) (e2 : Int) (m2 : Option Addr) (l2 d2 : Nat) (b : List Int × Int × List Int × List Int) (w : World)
    (h1 : InSl w p1 n1 c1 a.1) (h2 : InSl w p2 n2 c2 b.1) (k1 : BySl w m1 l1 d1 a.2.2.2) (k2 : BySl w m2 l2 d2 b.2.2.2) (f1 : e1 = a.2.1) (f2 : e2 = b.2.1) :
    Calls Tryd.prog 16 #[.agg (trC (.slice p1 n1 c1) e1 a.2.2.1 (.slice m1 l1 d1)), .agg (trC (.slice p2 n2 c2) e2 b.2.2.1 (.slice m2 l2 d2))] w fun e w' => e = .returned (.bool (trB a b)) ∧ Below w.heap.size w w' := by
  obtain ⟨A1, en1, rg1, mm1⟩ := a
  obtain ⟨A2, en2, rg2, mm2⟩ := b
  simp only at h1 h2 k1 k2 f1 f2
  subst f1 f2
  have hin : ∀ W, Below w.heap.size w W → Calls Tryd.prog 24 #[.slice p1 n1 c1, .slice p2 n2 c2] W fun e w' => e = .returned (.bool (decide (A1 = A2))) ∧ Below W.heap.size W w' := fun W hW => ints_any _ _ _ _ _ _ _ _ W (h1.below hW) (h2.below hW)
  have hs1 : ∀ W, Below w.heap.size w W → (convert 22 9 (.slice m1 l1 d1)).run Tryd.prog W = .ok (.string (strOfNums mm1)) W := fun W hW => by_str (k1.below hW)
  have hs2 : ∀ W, Below w.heap.size w W → (convert 22 9 (.slice m2 l2 d2)).run Tryd.prog W = .ok (.string (strOfNums mm2)) W := fun W hW => by_str (k2.below hW)
  have hq : decide (mm1 = mm2) = decide (strOfNums mm1 = strOfNums mm2) := decide_eq_decide.2 ⟨fun e => by rw [e], fun e => strOfNums_inj (fun x hx => Im.mem_isB k1.isB hx) (fun x hx => Im.mem_isB k2.isB hx) e⟩
  unfold trB rgB
  simp only
  rw [hq]
  have hrr := run_eql_regs (rg1.getD 0 0) (rg1.getD 1 0) (rg1.getD 2 0) (rg1.getD 3 0) (rg1.getD 4 0) (rg1.getD 5 0) (rg1.getD 6 0) (rg1.getD 7 0) (rg2.getD 0 0) (rg2.getD 1 0) (rg2.getD 2 0) (rg2.getD 3 0) (rg2.getD 4 0) (rg2.getD 5 0) (rg2.getD 6 0) (rg2.getD 7 0)
  simp only [trC]
  generalize rg1.getD 0 0 = r0 at *
  generalize rg1.getD 1 0 = r1 at *
  generalize rg1.getD 2 0 = r2 at *
  generalize rg1.getD 3 0 = r3 at *
  generalize rg1.getD 4 0 = r4 at *
  generalize rg1.getD 5 0 = r5 at *
  generalize rg1.getD 6 0 = r6 at *
  generalize rg1.getD 7 0 = r7 at *
  generalize rg2.getD 0 0 = q0 at *
  generalize rg2.getD 1 0 = q1 at *
  generalize rg2.getD 2 0 = q2 at *
  generalize rg2.getD 3 0 = q3 at *
  generalize rg2.getD 4 0 = q4 at *
  generalize rg2.getD 5 0 = q5 at *
  generalize rg2.getD 6 0 = q6 at *
  generalize rg2.getD 7 0 = q7 at *
  generalize decide (r0 = q0 ∧ r1 = q1 ∧ r2 = q2 ∧ r3 = q3 ∧ r4 = q4 ∧ r5 = q5 ∧ r6 = q6 ∧ r7 = q7) = rb at *
  generalize strOfNums mm1 = S at *
  generalize strOfNums mm2 = L at *
  have hsl : decide (S = L) = (S.toList == L.toList) := by
    by_cases e : S = L
    · subst e; simp
    · have : (S.toList == L.toList) = false := by
        rw [Bool.eq_false_iff]
        exact fun h => e (bytes_of_beq h)
      simp [e, this]
  rw [hsl]
  generalize decide (A1 = A2) = pb at *
  have HIN := Lib.hid hin
  have HS1 := Lib.hid hs1
  have HS2 := Lib.hid hs2
  clear hin hs1 hs2 h1 h2 k1 k2 hq hsl
  go_enter Tryd.func16, Tryd.ntmps16
  go_wp2_with fail
  have hB : Below w.heap.size w ((w.alloc (.cells #[.slice p1 n1 c1, .int .i64 e1, .int .u64 r0, .int .u64 r1, .int .u64 r2, .int .u64 r3, .int .u64 r4, .int .u64 r5, .int .u64 r6, .int .u64 r7, .slice m1 l1 d1] 32)).alloc (.cells #[.slice p2 n2 c2, .int .i64 e2, .int .u64 q0, .int .u64 q1, .int .u64 q2, .int .u64 q3, .int .u64 q4, .int .u64 q5, .int .u64 q6, .int .u64 q7, .slice m2 l2 d2] 32)) := ((Below.refl _ _).alloc (Nat.le_refl _) _).alloc (by simp) _
  have g1 : ((w.alloc (.cells #[.slice p1 n1 c1, .int .i64 e1, .int .u64 r0, .int .u64 r1, .int .u64 r2, .int .u64 r3, .int .u64 r4, .int .u64 r5, .int .u64 r6, .int .u64 r7, .slice m1 l1 d1] 32)).alloc (.cells #[.slice p2 n2 c2, .int .i64 e2, .int .u64 q0, .int .u64 q1, .int .u64 q2, .int .u64 q3, .int .u64 q4, .int .u64 q5, .int .u64 q6, .int .u64 q7, .slice m2 l2 d2] 32)).heap[w.heap.size]? = some (.cells #[.slice p1 n1 c1, .int .i64 e1, .int .u64 r0, .int .u64 r1, .int .u64 r2, .int .u64 r3, .int .u64 r4, .int .u64 r5, .int .u64 r6, .int .u64 r7, .slice m1 l1 d1] 32) := ((Below.box _ _).block _ (by simp)).trans (heap_newM rfl)
  have g2 : ((w.alloc (.cells #[.slice p1 n1 c1, .int .i64 e1, .int .u64 r0, .int .u64 r1, .int .u64 r2, .int .u64 r3, .int .u64 r4, .int .u64 r5, .int .u64 r6, .int .u64 r7, .slice m1 l1 d1] 32)).alloc (.cells #[.slice p2 n2 c2, .int .i64 e2, .int .u64 q0, .int .u64 q1, .int .u64 q2, .int .u64 q3, .int .u64 q4, .int .u64 q5, .int .u64 q6, .int .u64 q7, .slice m2 l2 d2] 32)).heap[w.heap.size + 1]? = some (.cells #[.slice p2 n2 c2, .int .i64 e2, .int .u64 q0, .int .u64 q1, .int .u64 q2, .int .u64 q3, .int .u64 q4, .int .u64 q5, .int .u64 q6, .int .u64 q7, .slice m2 l2 d2] 32) := heap_newM (by simp)
  have hz : ((w.alloc (.cells #[.slice p1 n1 c1, .int .i64 e1, .int .u64 r0, .int .u64 r1, .int .u64 r2, .int .u64 r3, .int .u64 r4, .int .u64 r5, .int .u64 r6, .int .u64 r7, .slice m1 l1 d1] 32)).alloc (.cells #[.slice p2 n2 c2, .int .i64 e2, .int .u64 q0, .int .u64 q1, .int .u64 q2, .int .u64 q3, .int .u64 q4, .int .u64 q5, .int .u64 q6, .int .u64 q7, .slice m2 l2 d2] 32)).heap.size = w.heap.size + 2 := by simp
  generalize (w.alloc (.cells #[.slice p1 n1 c1, .int .i64 e1, .int .u64 r0, .int .u64 r1, .int .u64 r2, .int .u64 r3, .int .u64 r4, .int .u64 r5, .int .u64 r6, .int .u64 r7, .slice m1 l1 d1] 32)).alloc (.cells #[.slice p2 n2 c2, .int .i64 e2, .int .u64 q0, .int .u64 q1, .int .u64 q2, .int .u64 q3, .int .u64 q4, .int .u64 q5, .int .u64 q6, .int .u64 q7, .slice m2 l2 d2] 32) = w1 at *
  refine (HIN.out _ hB).mono ?_
  rintro e v ⟨rfl, hb⟩
  have x1 := (hb.block _ (by omega)).trans g1
  have x2 := (hb.block _ (by omega)).trans g2
  have hBv := hB.trans (hb.mono hB.size)
  have t1_0 : v.cell? ⟨w.heap.size, 0, none⟩ = some (.slice p1 n1 c1) := row_cell x1 0
  have t1_1 : v.cell? ⟨w.heap.size, 1, none⟩ = some (.int .i64 e1) := row_cell x1 1
  have t1_2 : v.cell? ⟨w.heap.size, 2, none⟩ = some (.int .u64 r0) := row_cell x1 2
  have t1_3 : v.cell? ⟨w.heap.size, 3, none⟩ = some (.int .u64 r1) := row_cell x1 3
  have t1_4 : v.cell? ⟨w.heap.size, 4, none⟩ = some (.int .u64 r2) := row_cell x1 4
  have t1_5 : v.cell? ⟨w.heap.size, 5, none⟩ = some (.int .u64 r3) := row_cell x1 5
  have t1_6 : v.cell? ⟨w.heap.size, 6, none⟩ = some (.int .u64 r4) := row_cell x1 6
  have t1_7 : v.cell? ⟨w.heap.size, 7, none⟩ = some (.int .u64 r5) := row_cell x1 7
  have t1_8 : v.cell? ⟨w.heap.size, 8, none⟩ = some (.int .u64 r6) := row_cell x1 8
  have t1_9 : v.cell? ⟨w.heap.size, 9, none⟩ = some (.int .u64 r7) := row_cell x1 9
  have t1_10 : v.cell? ⟨w.heap.size, 10, none⟩ = some (.slice m1 l1 d1) := row_cell x1 10
  have t2_0 : v.cell? ⟨w.heap.size + 1, 0, none⟩ = some (.slice p2 n2 c2) := row_cell x2 0
  have t2_1 : v.cell? ⟨w.heap.size + 1, 1, none⟩ = some (.int .i64 e2) := row_cell x2 1
  have t2_2 : v.cell? ⟨w.heap.size + 1, 2, none⟩ = some (.int .u64 q0) := row_cell x2 2
  have t2_3 : v.cell? ⟨w.heap.size + 1, 3, none⟩ = some (.int .u64 q1) := row_cell x2 3
  have t2_4 : v.cell? ⟨w.heap.size + 1, 4, none⟩ = some (.int .u64 q2) := row_cell x2 4
  have t2_5 : v.cell? ⟨w.heap.size + 1, 5, none⟩ = some (.int .u64 q3) := row_cell x2 5
  have t2_6 : v.cell? ⟨w.heap.size + 1, 6, none⟩ = some (.int .u64 q4) := row_cell x2 6
  have t2_7 : v.cell? ⟨w.heap.size + 1, 7, none⟩ = some (.int .u64 q5) := row_cell x2 7
  have t2_8 : v.cell? ⟨w.heap.size + 1, 8, none⟩ = some (.int .u64 q6) := row_cell x2 8
  have t2_9 : v.cell? ⟨w.heap.size + 1, 9, none⟩ = some (.int .u64 q7) := row_cell x2 9
  have t2_10 : v.cell? ⟨w.heap.size + 1, 10, none⟩ = some (.slice m2 l2 d2) := row_cell x2 10
  have s1 := HS1.out v hBv
  have s2 := HS2.out v hBv
  have HBV := Lib.hid hBv
  clear hB g1 g2 hz hb x1 x2 hBv
  cases pb
  · go_wp2
    go_ret
    exact ⟨by simp, HBV.out⟩
  by_cases he : e1 ≠ e2
  · have he' : (e1 == e2) = false := by simpa using he
    have hd : decide (e1 = e2) = false := decide_eq_false he
    have HD := Lib.hid hd
    clear he hd
    go_wp2
    go_ret
    exact ⟨by rw [HD.out]; simp, HBV.out⟩
  · have he : e1 = e2 := Decidable.not_not.1 he
    subst he
    cases rb
    · go_wp2
      go_ret
      exact ⟨by simp, HBV.out⟩
    · go_wp2
      go_ret
      exact ⟨by simp, HBV.out⟩
end Go.Proofs.YtfhnigfghfmolaaDoor
namespace Go.Proofs.YtfhnigfghfmolaaDoor
set_option maxRecDepth 100000
open Go.RowKit

namespace Mc
def opAt (p : Im.Pic) (q : Int) : Int := (p.cs.getD q.toNat Im.z5).op
theorem act_blind {p : Im.Pic} {xs ys : List Int} {i : Im.I5} {s : St} {nx : Int} (h1 : i.op ≠ 19) (h2 : i.op ≠ 20) : act p xs i s nx = act p ys i s nx := by
  unfold act
  rw [if_neg h1, if_neg h1, if_neg h2, if_neg h2]
theorem step_blind {p : Im.Pic} {xs ys : List Int} {s : St} (h1 : opAt p s.pl ≠ 19) (h2 : opAt p s.pl ≠ 20) : step p xs s = step p ys s := by
  unfold step
  rw [act_blind (ys := ys) (show (ins p s).op ≠ 19 from h1) (show (ins p s).op ≠ 20 from h2)]
theorem go_blind {p : Im.Pic} {xs ys : List Int} : ∀ (n : Nat) (s : St) (path : List Int), (∀ q ∈ (go p xs n s path).1, opAt p q ≠ 19 ∧ opAt p q ≠ 20) → s.pl ∈ path → go p xs n s path = go p ys n s path := by
  intro n
  induction n with
  | zero => intro s path _ _; rfl
  | succ n ih =>
    intro s path h hm
    obtain ⟨l, hl, _⟩ := go_path (p := p) (xs := xs) (n + 1) s path
    have h0 := h s.pl (by rw [hl]; exact List.mem_append_left _ hm)
    have hs := step_blind (xs := xs) (ys := ys) h0.1 h0.2
    rw [go] at h ⊢
    rw [go, ← hs]
    split
    · rename_i he
      rw [if_pos he] at h
      exact ih _ _ h (by simp)
    · rfl
theorem go_in {p : Im.Pic} {xs : List Int} (hR : R p) (hW : Wc p) (hx : Cd.isB xs) (hl : xs.length < 1000) : ∀ (n : Nat) (s : St) (path : List Int), Ok p s → (∀ q ∈ path, 0 ≤ q ∧ q < p.cs.length) → ∀ q ∈ (go p xs n s path).1, 0 ≤ q ∧ q < p.cs.length := by
  intro n
  induction n with
  | zero => intro s path _ h; exact h
  | succ n ih =>
    intro s path hs h
    rw [go]
    split
    · have h1 := hs.step hR hW hx hl
      refine ih _ _ h1 fun q hq => ?_
      rcases List.mem_append.1 hq with hq | hq
      · exact h q hq
      · rw [List.mem_singleton.1 hq]; exact ⟨h1.p0, h1.p1⟩
    · exact h
theorem answer_er {p : Im.Pic} {xs : List Int} (steps : Int) (h : (xs.length : Int) ≤ p.inp) : (answer p xs steps).2.2.2.2 = Im.chk p := by
  unfold answer
  split
  · rfl
  · rename_i h0
    rw [if_neg (by omega)]
    exact (by simpa using h0 : Im.chk p = 0).symm
theorem answer_in {p : Im.Pic} {xs : List Int} (steps : Int) (hW : Wc p) (hx : Cd.isB xs) (hd : Cd.isB p.ds) : ∀ q ∈ (answer p xs steps).1, 0 ≤ q ∧ q < p.cs.length := by
  unfold answer
  split
  · intro q hq; simp at hq
  · rename_i h0
    split
    · intro q hq; simp at hq
    · rename_i h1
      have hR : R p := by unfold R; simpa using h0
      have hC := hR.cnt
      have h2 := mem0_ok hR hd
      exact go_in hR hW hx (by have := hC.2.2.1; omega) _ _ _ h2 fun q hq => by rw [List.mem_singleton.1 hq]; exact ⟨h2.p0, h2.p1⟩
theorem answer_blind {p : Im.Pic} {xs ys : List Int} (steps : Int) (h1 : (xs.length : Int) ≤ p.inp) (h2 : (ys.length : Int) ≤ p.inp) (h : ∀ q ∈ (answer p xs steps).1, opAt p q ≠ 19 ∧ opAt p q ≠ 20) : answer p xs steps = answer p ys steps := by
  unfold answer at *
  split
  · rfl
  · rename_i h0
    rw [if_neg h0, if_neg (by omega)] at h
    rw [if_neg (by omega), if_neg (by omega)]
    have := go_blind (p := p) (xs := xs) (ys := ys) (most steps) (start p) [0] h (by simp [start])
    unfold run
    rw [this]
end Mc
theorem trB_self (a : List Int × Int × List Int × List Int) : trB a a = true := by simp [trB, rgB]
theorem trB_of {a b : List Int × Int × List Int × List Int × Int} (h : a = b) : trB (a.1, a.2.1, a.2.2.1, a.2.2.2.1) (b.1, b.2.1, b.2.2.1, b.2.2.2.1) = true := by subst h; exact trB_self _

set_option maxRecDepth 20000 in
set_option maxHeartbeats 12800000 in
theorem blind_walk (mem stk inp : Int) (Ad : Option Addr) (ld cd : Nat) (Af : Option Addr) (lf cf : Nat) (Ac : Option Addr) (lc cc : Nat) (P : Im.Pic) (Ai : Option Addr) (li ci : Nat) (xs : List Int) (Bi : Option Addr) (lj cj : Nat) (ys : List Int) (steps : Int) (w : World) (ho : Ops w) (hi : ImAt w Ad ld cd Af lf cf Ac lc cc P) (e0 : P.mem = mem) (e1 : P.stk = stk) (e2 : P.inp = inp) (hx : BySl w Ai li ci xs) (hy : BySl w Bi lj cj ys) :
    Calls Tryd.prog 9 #[.agg #[.int .i64 mem, .int .i64 stk, .int .i64 inp, .slice Ad ld cd, .slice Af lf cf, .slice Ac lc cc], .slice Ai li ci, .slice Bi lj cj, .int .i64 steps] w fun e w' => e = .returned (.bool true) ∧ Below w.heap.size w w' := by
  have hp := ho.pos
  have HA : HdAt w ⟨mem, stk, inp, Ad, ld, cd, Af, lf, cf, Ac, lc, cc, Ai, li, ci, P, xs⟩ := ⟨hi, e0, e1, e2, hx⟩
  have HB : HdAt w ⟨mem, stk, inp, Ad, ld, cd, Af, lf, cf, Ac, lc, cc, Bi, lj, cj, P, ys⟩ := ⟨hi, e0, e1, e2, hy⟩
  have hld := Nat.le_trans hi.d.hle hi.d.hcap
  have hlf := Nat.le_trans hi.f.hle hi.f.hcap
  have hlc := Nat.le_trans hi.c.hle hi.c.hcap
  have hli := Nat.le_trans hx.hle hx.hcap
  have hlj := Nat.le_trans hy.hle hy.hcap
  have hgr := fun W => great_any mem stk inp Ad ld cd Af lf cf Ac lc cc Ai li ci steps W hld hlf hlc hli
  unfold maxLen at hli hlj hlc
  have haw : ∀ W, Below w.heap.size w W → Calls Tryd.prog 10 #[] W fun e w' => e = .returned (.bool true) ∧ Below W.heap.size W w' := fun W hW => mc_awake W (ho.below hW hp)
  have hr1 : ∀ W, Below w.heap.size w W → Calls Tryd.prog 12 #[.agg #[.int .i64 mem, .int .i64 stk, .int .i64 inp, .slice Ad ld cd, .slice Af lf cf, .slice Ac lc cc], .slice Ai li ci, .int .i64 steps] W (RunA (Mc.answer P xs steps) W) := fun W hW => run_any ⟨mem, stk, inp, Ad, ld, cd, Af, lf, cf, Ac, lc, cc, Ai, li, ci, P, xs⟩ steps W (ho.below hW hp) (HA.below hW)
  have hr2 : ∀ W, Below w.heap.size w W → Calls Tryd.prog 12 #[.agg #[.int .i64 mem, .int .i64 stk, .int .i64 inp, .slice Ad ld cd, .slice Af lf cf, .slice Ac lc cc], .slice Bi lj cj, .int .i64 steps] W (RunA (Mc.answer P ys steps) W) := fun W hW => run_any ⟨mem, stk, inp, Ad, ld, cd, Af, lf, cf, Ac, lc, cc, Bi, lj, cj, P, ys⟩ steps W (ho.below hW hp) (HB.below hW)
  have hrng := Mc.answer_in (p := P) (xs := xs) steps hi.c.rng hx.isB hi.d.isB
  have hxl := hx.hlen
  have hyl := hy.hlen
  have hcl := hi.c.hlen
  have hER : (li : Int) ≤ inp → (lj : Int) ≤ inp → (Mc.answer P xs steps).2.2.2.2 = (Mc.answer P ys steps).2.2.2.2 := fun h1 h2 => by
    rw [Mc.answer_er steps (by rw [hxl, e2]; exact h1), Mc.answer_er steps (by rw [hyl, e2]; exact h2)]
  have hBL : (li : Int) ≤ inp → (lj : Int) ≤ inp → (∀ q ∈ (Mc.answer P xs steps).1, Mc.opAt P q ≠ 19 ∧ Mc.opAt P q ≠ 20) → trB ((Mc.answer P xs steps).1, (Mc.answer P xs steps).2.1, (Mc.answer P xs steps).2.2.1, (Mc.answer P xs steps).2.2.2.1) ((Mc.answer P ys steps).1, (Mc.answer P ys steps).2.1, (Mc.answer P ys steps).2.2.1, (Mc.answer P ys steps).2.2.2.1) = true := fun h1 h2 h3 =>
    trB_of (Mc.answer_blind steps (by rw [hxl, e2]; exact h1) (by rw [hyl, e2]; exact h2) h3)
  generalize Mc.answer P xs steps = a at *
  generalize Mc.answer P ys steps = b at *
  obtain ⟨A1, en1, rg1, mm1, er1⟩ := a
  obtain ⟨A2, en2, rg2, mm2, er2⟩ := b
  have hST : ∀ (p1 : Option Addr) (c1 : Nat) (m1 : Option Addr) (d1 : Nat) (p2 : Option Addr) (c2 : Nat) (m2 : Option Addr) (d2 : Nat) (W : World), InSl W p1 A1.length c1 A1 → InSl W p2 A2.length c2 A2 → BySl W m1 mm1.length d1 mm1 → BySl W m2 mm2.length d2 mm2 →
      Calls Tryd.prog 16 #[.agg (trC (.slice p1 A1.length c1) en1 rg1 (.slice m1 mm1.length d1)), .agg (trC (.slice p2 A2.length c2) en2 rg2 (.slice m2 mm2.length d2))] W fun e w' => e = .returned (.bool (trB (A1, en1, rg1, mm1) (A2, en2, rg2, mm2))) ∧ Below W.heap.size W w' := fun p1 c1 m1 d1 p2 c2 m2 d2 W h1 h2 h3 h4 => sameTrace_any p1 _ c1 en1 m1 _ d1 (A1, en1, rg1, mm1) p2 _ c2 en2 m2 _ d2 (A2, en2, rg2, mm2) W h1 h2 h3 h4 rfl rfl
  have hr1 : ∀ W, Below w.heap.size w W → Calls Tryd.prog 12 #[.agg #[.int .i64 mem, .int .i64 stk, .int .i64 inp, .slice Ad ld cd, .slice Af lf cf, .slice Ac lc cc], .slice Ai li ci, .int .i64 steps] W fun e w' => ∃ pA pcap mA mcap, e = .returned (.tuple #[.agg #[.slice pA A1.length pcap, .int .i64 en1, .int .u64 (rg1.getD 0 0), .int .u64 (rg1.getD 1 0), .int .u64 (rg1.getD 2 0), .int .u64 (rg1.getD 3 0), .int .u64 (rg1.getD 4 0), .int .u64 (rg1.getD 5 0), .int .u64 (rg1.getD 6 0), .int .u64 (rg1.getD 7 0), .slice mA mm1.length mcap], .int .i64 er1]) ∧ InSl w' pA A1.length pcap A1 ∧ BySl w' mA mm1.length mcap mm1 ∧ Below W.heap.size W w' := hr1
  have hr2 : ∀ W, Below w.heap.size w W → Calls Tryd.prog 12 #[.agg #[.int .i64 mem, .int .i64 stk, .int .i64 inp, .slice Ad ld cd, .slice Af lf cf, .slice Ac lc cc], .slice Bi lj cj, .int .i64 steps] W fun e w' => ∃ pA pcap mA mcap, e = .returned (.tuple #[.agg #[.slice pA A2.length pcap, .int .i64 en2, .int .u64 (rg2.getD 0 0), .int .u64 (rg2.getD 1 0), .int .u64 (rg2.getD 2 0), .int .u64 (rg2.getD 3 0), .int .u64 (rg2.getD 4 0), .int .u64 (rg2.getD 5 0), .int .u64 (rg2.getD 6 0), .int .u64 (rg2.getD 7 0), .slice mA mm2.length mcap], .int .i64 er2]) ∧ InSl w' pA A2.length pcap A2 ∧ BySl w' mA mm2.length mcap mm2 ∧ Below W.heap.size W w' := hr2
  simp only [trC] at hST
  simp only at hER hBL hrng
  generalize trB (A1, en1, rg1, mm1) (A2, en2, rg2, mm2) = tb at *
  generalize rg1.getD 0 0 = r0 at *
  generalize rg1.getD 1 0 = r1 at *
  generalize rg1.getD 2 0 = r2 at *
  generalize rg1.getD 3 0 = r3 at *
  generalize rg1.getD 4 0 = r4 at *
  generalize rg1.getD 5 0 = r5 at *
  generalize rg1.getD 6 0 = r6 at *
  generalize rg1.getD 7 0 = r7 at *
  generalize rg2.getD 0 0 = z0 at *
  generalize rg2.getD 1 0 = z1 at *
  generalize rg2.getD 2 0 = z2 at *
  generalize rg2.getD 3 0 = z3 at *
  generalize rg2.getD 4 0 = z4 at *
  generalize rg2.getD 5 0 = z5 at *
  generalize rg2.getD 6 0 = z6 at *
  generalize rg2.getD 7 0 = z7 at *
  have hil := hi.c
  generalize hn1 : A1.length = n1 at *
  generalize hn2 : A2.length = n2 at *
  generalize hl1 : mm1.length = l1 at *
  generalize hl2 : mm2.length = l2 at *
  have hq := hgr
  generalize greatB ld lf lc li steps = q at *
  have HGR := Lib.hid hq
  have HAW := Lib.hid haw
  have HR1 := Lib.hid hr1
  have HR2 := Lib.hid hr2
  have HST := Lib.hid hST
  have HER := Lib.hid hER
  have HBL := Lib.hid hBL
  have HRNG := Lib.hid hrng
  have HIC := Lib.hid hil
  have HN1 := Lib.hid hn1
  have HCL := Lib.hid hcl
  clear hq haw hr1 hr2 hST hER hBL hrng hil hn1 hn2 hl1 hl2 hgr hi hx hy HA HB e0 e1 e2 ho hxl hyl hcl
  go_enter Tryd.func9, Tryd.ntmps9
  go_wp2_with fail
  have hB0 := Below.box w (.cells #[.int .i64 mem, .int .i64 stk, .int .i64 inp, .slice Ad ld cd, .slice Af lf cf, .slice Ac lc cc] 26)
  have hX0 : (w.alloc (.cells #[.int .i64 mem, .int .i64 stk, .int .i64 inp, .slice Ad ld cd, .slice Af lf cf, .slice Ac lc cc] 26)).heap[w.heap.size]? = some (.cells #[.int .i64 mem, .int .i64 stk, .int .i64 inp, .slice Ad ld cd, .slice Af lf cf, .slice Ac lc cc] 26 (0, 0)) := heap_newM rfl
  have hz0 : w.heap.size < (w.alloc (.cells #[.int .i64 mem, .int .i64 stk, .int .i64 inp, .slice Ad ld cd, .slice Af lf cf, .slice Ac lc cc] 26)).heap.size := by simp
  generalize w.alloc (.cells #[.int .i64 mem, .int .i64 stk, .int .i64 inp, .slice Ad ld cd, .slice Af lf cf, .slice Ac lc cc] 26) = w0 at *
  refine (HAW.out _ hB0).mono ?_
  rintro e v ⟨rfl, hb⟩
  have HX1 := Lib.hid ((hb.block _ hz0).trans hX0)
  have HB1 := Lib.hid (hB0.trans (hb.mono hB0.size))
  have HZ1 := Lib.hid (Nat.lt_of_lt_of_le hz0 hb.size)
  clear hB0 hX0 hz0 hb
  have q0 := row_cell HX1.out 0
  have q1 := row_cell HX1.out 1
  have q2 := row_cell HX1.out 2
  have q3 := row_cell HX1.out 3
  have q4 := row_cell HX1.out 4
  have q5 := row_cell HX1.out 5
  simp at q0 q1 q2 q3 q4 q5
  go_wp2_with fail
  refine (HGR.out _).mono ?_
  rintro e v2 ⟨rfl, hb⟩
  have HX2 := Lib.hid ((hb.block _ HZ1.out).trans HX1.out)
  have HB2 := Lib.hid (HB1.out.trans (hb.mono HB1.out.size))
  have HZ2 := Lib.hid (Nat.lt_of_lt_of_le HZ1.out hb.size)
  clear hb
  clear q0 q1 q2 q3 q4 q5
  have q0 := row_cell HX2.out 0
  have q1 := row_cell HX2.out 1
  have q2 := row_cell HX2.out 2
  have q3 := row_cell HX2.out 3
  have q4 := row_cell HX2.out 4
  have q5 := row_cell HX2.out 5
  simp at q0 q1 q2 q3 q4 q5
  by_cases hq : q = true
  · subst hq
    go_wp2
    go_ret
    exact ⟨rfl, HB2.out⟩
  have hq : q = false := by simpa using hq
  subst hq
  by_cases hm : (40 : Int) < lj
  · go_wp2
    go_ret
    exact ⟨rfl, HB2.out⟩
  by_cases h1 : inp < li
  · go_wp2
    go_ret
    exact ⟨rfl, HB2.out⟩
  by_cases h2 : inp < lj
  · go_wp2
    go_ret
    exact ⟨rfl, HB2.out⟩
  have hER := HER.out (by omega) (by omega)
  subst hER
  have HBT := Lib.hid (HBL.out (by omega) (by omega))
  go_wp2_with fail
  refine (HR1.out _ HB2.out).mono ?_
  rintro e v3 ⟨p1, c1, m1, d1, rfl, hin1, hby1, hb⟩
  have HX3 := Lib.hid ((hb.block _ HZ2.out).trans HX2.out)
  have HB3 := Lib.hid (HB2.out.trans (hb.mono HB2.out.size))
  have HZ3 := Lib.hid (Nat.lt_of_lt_of_le HZ2.out hb.size)
  have HIN1 := Lib.hid hin1
  have HBY1 := Lib.hid hby1
  have hlt1 := Nat.le_trans hin1.hle hin1.hcap
  unfold maxLen at hlt1
  clear hb hin1 hby1
  clear q0 q1 q2 q3 q4 q5
  have q0 := row_cell HX3.out 0
  have q1 := row_cell HX3.out 1
  have q2 := row_cell HX3.out 2
  have q3 := row_cell HX3.out 3
  have q4 := row_cell HX3.out 4
  have q5 := row_cell HX3.out 5
  simp at q0 q1 q2 q3 q4 q5
  have hne : w.heap.size ≠ v3.heap.size := by have := HZ3.out; omega
  have hvs := HZ3.out
  go_wp2_with fail
  have hB4 : Below v3.heap.size v3 (v3.alloc (.cells #[.slice p1 n1 c1, .int .i64 en1, .int .u64 r0, .int .u64 r1, .int .u64 r2, .int .u64 r3, .int .u64 r4, .int .u64 r5, .int .u64 r6, .int .u64 r7, .slice m1 l1 d1] 32)) := Below.box _ _
  have hX4 : (v3.alloc (.cells #[.slice p1 n1 c1, .int .i64 en1, .int .u64 r0, .int .u64 r1, .int .u64 r2, .int .u64 r3, .int .u64 r4, .int .u64 r5, .int .u64 r6, .int .u64 r7, .slice m1 l1 d1] 32)).heap[v3.heap.size]? = some (.cells #[.slice p1 n1 c1, .int .i64 en1, .int .u64 r0, .int .u64 r1, .int .u64 r2, .int .u64 r3, .int .u64 r4, .int .u64 r5, .int .u64 r6, .int .u64 r7, .slice m1 l1 d1] 32 (0, 0)) := heap_newM rfl
  have hz4 : (v3.alloc (.cells #[.slice p1 n1 c1, .int .i64 en1, .int .u64 r0, .int .u64 r1, .int .u64 r2, .int .u64 r3, .int .u64 r4, .int .u64 r5, .int .u64 r6, .int .u64 r7, .slice m1 l1 d1] 32)).heap.size = v3.heap.size + 1 := by simp
  generalize v3.alloc (.cells #[.slice p1 n1 c1, .int .i64 en1, .int .u64 r0, .int .u64 r1, .int .u64 r2, .int .u64 r3, .int .u64 r4, .int .u64 r5, .int .u64 r6, .int .u64 r7, .slice m1 l1 d1] 32) = w4 at *
  refine (HR2.out _ (HB3.out.trans (hB4.mono HB3.out.size))).mono ?_
  rintro e v5 ⟨p2, c2, m2, d2, rfl, hin2, hby2, hb⟩
  have hB5 : Below v3.heap.size v3 v5 := hB4.trans (hb.mono hB4.size)
  have HX5 := Lib.hid ((hB5.block _ HZ3.out).trans HX3.out)
  have HT5 := Lib.hid ((hb.block _ (by omega)).trans hX4)
  have HB5 := Lib.hid (HB3.out.trans (hB5.mono HB3.out.size))
  have HZ5 := Lib.hid (show w.heap.size < v3.heap.size ∧ v3.heap.size < v5.heap.size from ⟨HZ3.out, by have := hb.size; omega⟩)
  have HI1 := Lib.hid (HIN1.out.below hB5)
  have HY1 := Lib.hid (HBY1.out.below hB5)
  have HIN2 := Lib.hid hin2
  have HBY2 := Lib.hid hby2
  clear hb hin2 hby2 hB4 hX4 hz4 hB5 hne hvs q0 q1 q2 q3 q4 q5
  by_cases he : er1 ≠ 0
  · have he' : (er1 != 0) = true := by simpa using he
    clear he
    go_wp2
    go_ret
    exact ⟨rfl, HB5.out.trans ((Below.box _ _).mono HB5.out.size)⟩
  have he : er1 = 0 := Decidable.not_not.1 he
  subst he
  go_wp2
  have hB6 := Below.box v5 (.cells #[.slice p2 n2 c2, .int .i64 en2, .int .u64 z0, .int .u64 z1, .int .u64 z2, .int .u64 z3, .int .u64 z4, .int .u64 z5, .int .u64 z6, .int .u64 z7, .slice m2 l2 d2] 32)
  have hX6 : (v5.alloc (.cells #[.slice p2 n2 c2, .int .i64 en2, .int .u64 z0, .int .u64 z1, .int .u64 z2, .int .u64 z3, .int .u64 z4, .int .u64 z5, .int .u64 z6, .int .u64 z7, .slice m2 l2 d2] 32)).heap[v5.heap.size]? = some (.cells #[.slice p2 n2 c2, .int .i64 en2, .int .u64 z0, .int .u64 z1, .int .u64 z2, .int .u64 z3, .int .u64 z4, .int .u64 z5, .int .u64 z6, .int .u64 z7, .slice m2 l2 d2] 32 (0, 0)) := heap_newM rfl
  have hz6 : (v5.alloc (.cells #[.slice p2 n2 c2, .int .i64 en2, .int .u64 z0, .int .u64 z1, .int .u64 z2, .int .u64 z3, .int .u64 z4, .int .u64 z5, .int .u64 z6, .int .u64 z7, .slice m2 l2 d2] 32)).heap.size = v5.heap.size + 1 := by simp
  generalize v5.alloc (.cells #[.slice p2 n2 c2, .int .i64 en2, .int .u64 z0, .int .u64 z1, .int .u64 z2, .int .u64 z3, .int .u64 z4, .int .u64 z5, .int .u64 z6, .int .u64 z7, .slice m2 l2 d2] 32) = w6 at *
  have HU := Lib.hid ((hB6.block _ (by have := HZ5.out; omega)).trans HX5.out)
  have HT1 := Lib.hid ((hB6.block _ HZ5.out.2).trans HT5.out)
  have HT2 := Lib.hid hX6
  have HB6 := Lib.hid (HB5.out.trans (hB6.mono HB5.out.size))
  have HZ6 := Lib.hid (show w.heap.size < w6.heap.size ∧ v3.heap.size < w6.heap.size ∧ v5.heap.size < w6.heap.size from ⟨by have := HZ5.out; omega, by have := HZ5.out; omega, by omega⟩)
  have HJ1 := Lib.hid (HI1.out.below hB6)
  have HK1 := Lib.hid (HY1.out.below hB6)
  have HJ2 := Lib.hid (HIN2.out.below hB6)
  have HK2 := Lib.hid (HBY2.out.below hB6)
  have HC6 := Lib.hid (HIC.out.below HB6.out)
  clear hB6 hX6 hz6
  go_loopw [13, 14] (fun i _ wr => ∃ k : Nat, k ≤ n1 ∧ i = .int .i64 k ∧ Below w6.heap.size w6 wr ∧ ∀ j, j < k → Mc.opAt P (A1.getD j 0) ≠ 19 ∧ Mc.opAt P (A1.getD j 0) ≠ 20) (fun i _ _ => n1 - (intOf i).toNat)
  case atStart => exact ⟨0, by omega, rfl, Below.refl _ _, fun j hj => absurd hj (by omega)⟩
  case round =>
    obtain ⟨k, hk, rfl, hbr, hall⟩ := hrel
    have b5 := cells_below hbr (row_cell HU.out 5) HZ6.out.1
    have t0 := cells_below hbr (row_cell HT1.out 0) HZ6.out.2.1
    simp at b5 t0
    have HR := Lib.hid hbr
    have HALL := Lib.hid hall
    clear hbr hall
    by_cases hkn : k < n1
    · have hki : (k : Int) < n1 := by omega
      obtain ⟨bp, op, rfl, hbp, hcp⟩ := (HJ1.out.below HR.out).mem (by omega)
      have ck := hcp k hkn
      have hkl : k < A1.length := by rw [HN1.out]; exact hkn
      have hrg := HRNG.out (A1.getD k 0) (by rw [List.getD_eq_getElem?_getD, List.getElem?_eq_getElem hkl]; exact List.getElem_mem hkl)
      obtain ⟨zn, hzn⟩ := Int.eq_ofNat_of_zero_le hrg.1
      rw [hzn] at ck hrg
      have hzl : zn < lc := by have := HCL.out; omega
      have hzi : (zn : Int) < lc := by omega
      obtain ⟨bc, oc, rfl, hbc, hcc⟩ := (HC6.out.below HR.out).mem (by omega)
      have cop := (hcc zn hzl).1
      obtain ⟨o, ho⟩ : ∃ o, Mc.opAt P (A1.getD k 0) = o := ⟨_, rfl⟩
      have hoo : (P.cs.getD zn Im.z5).op = o := by rw [← ho, hzn]; unfold Mc.opAt; simp
      rw [hoo] at cop
      have HO := Lib.hid ho
      clear hcp hcc hrg hzn hoo ho hkl
      by_cases h19 : o = 19
      · subst h19
        go_wp2
        go_quiet (fail)
        go_wp2
        go_ret
        exact ⟨rfl, HB6.out.trans ((below_drewN HR.out nq).mono HB6.out.size)⟩
      by_cases h20 : o = 20
      · subst h20
        go_wp2
        go_quiet (fail)
        go_wp2
        go_ret
        exact ⟨rfl, HB6.out.trans ((below_drewN HR.out nq).mono HB6.out.size)⟩
      have e19 : (o == 19) = false := by simpa using h19
      have e20 : (o == 20) = false := by simpa using h20
      have H19 := Lib.hid (And.intro h19 h20)
      clear h19 h20
      go_wp2
      go_quiet (fail)
      go_wp2
      go_roundw
      case rel =>
        refine ⟨k + 1, by omega, by go_num, below_drewN HR.out nq, fun j hj => ?_⟩
        rcases Nat.lt_succ_iff_lt_or_eq.1 hj with h | h
        · exact HALL.out j h
        · rw [h, HO.out]; exact H19.out
      case measure => simp [intOf]; omega
    · have hke : k = n1 := by omega
      have hki : ¬ (k : Int) < n1 := by omega
      have htb : tb = true := HBT.out fun q hq => by
        obtain ⟨j, hj, rfl⟩ := List.getElem_of_mem hq
        have := HALL.out j (by have := HN1.out; omega)
        rwa [List.getD_eq_getElem?_getD, List.getElem?_eq_getElem hj] at this
      subst htb
      have HKE := Lib.hid hke
      clear hke
      have x1_0 : wr.cell? ⟨v3.heap.size, 0, none⟩ = some (.slice p1 n1 c1) := cells_below HR.out (row_cell HT1.out 0) HZ6.out.2.1
      have x1_1 : wr.cell? ⟨v3.heap.size, 1, none⟩ = some (.int .i64 en1) := cells_below HR.out (row_cell HT1.out 1) HZ6.out.2.1
      have x1_2 : wr.cell? ⟨v3.heap.size, 2, none⟩ = some (.int .u64 r0) := cells_below HR.out (row_cell HT1.out 2) HZ6.out.2.1
      have x1_3 : wr.cell? ⟨v3.heap.size, 3, none⟩ = some (.int .u64 r1) := cells_below HR.out (row_cell HT1.out 3) HZ6.out.2.1
      have x1_4 : wr.cell? ⟨v3.heap.size, 4, none⟩ = some (.int .u64 r2) := cells_below HR.out (row_cell HT1.out 4) HZ6.out.2.1
      have x1_5 : wr.cell? ⟨v3.heap.size, 5, none⟩ = some (.int .u64 r3) := cells_below HR.out (row_cell HT1.out 5) HZ6.out.2.1
      have x1_6 : wr.cell? ⟨v3.heap.size, 6, none⟩ = some (.int .u64 r4) := cells_below HR.out (row_cell HT1.out 6) HZ6.out.2.1
      have x1_7 : wr.cell? ⟨v3.heap.size, 7, none⟩ = some (.int .u64 r5) := cells_below HR.out (row_cell HT1.out 7) HZ6.out.2.1
      have x1_8 : wr.cell? ⟨v3.heap.size, 8, none⟩ = some (.int .u64 r6) := cells_below HR.out (row_cell HT1.out 8) HZ6.out.2.1
      have x1_9 : wr.cell? ⟨v3.heap.size, 9, none⟩ = some (.int .u64 r7) := cells_below HR.out (row_cell HT1.out 9) HZ6.out.2.1
      have x1_10 : wr.cell? ⟨v3.heap.size, 10, none⟩ = some (.slice m1 l1 d1) := cells_below HR.out (row_cell HT1.out 10) HZ6.out.2.1
      have x2_0 : wr.cell? ⟨v5.heap.size, 0, none⟩ = some (.slice p2 n2 c2) := cells_below HR.out (row_cell HT2.out 0) HZ6.out.2.2
      have x2_1 : wr.cell? ⟨v5.heap.size, 1, none⟩ = some (.int .i64 en2) := cells_below HR.out (row_cell HT2.out 1) HZ6.out.2.2
      have x2_2 : wr.cell? ⟨v5.heap.size, 2, none⟩ = some (.int .u64 z0) := cells_below HR.out (row_cell HT2.out 2) HZ6.out.2.2
      have x2_3 : wr.cell? ⟨v5.heap.size, 3, none⟩ = some (.int .u64 z1) := cells_below HR.out (row_cell HT2.out 3) HZ6.out.2.2
      have x2_4 : wr.cell? ⟨v5.heap.size, 4, none⟩ = some (.int .u64 z2) := cells_below HR.out (row_cell HT2.out 4) HZ6.out.2.2
      have x2_5 : wr.cell? ⟨v5.heap.size, 5, none⟩ = some (.int .u64 z3) := cells_below HR.out (row_cell HT2.out 5) HZ6.out.2.2
      have x2_6 : wr.cell? ⟨v5.heap.size, 6, none⟩ = some (.int .u64 z4) := cells_below HR.out (row_cell HT2.out 6) HZ6.out.2.2
      have x2_7 : wr.cell? ⟨v5.heap.size, 7, none⟩ = some (.int .u64 z5) := cells_below HR.out (row_cell HT2.out 7) HZ6.out.2.2
      have x2_8 : wr.cell? ⟨v5.heap.size, 8, none⟩ = some (.int .u64 z6) := cells_below HR.out (row_cell HT2.out 8) HZ6.out.2.2
      have x2_9 : wr.cell? ⟨v5.heap.size, 9, none⟩ = some (.int .u64 z7) := cells_below HR.out (row_cell HT2.out 9) HZ6.out.2.2
      have x2_10 : wr.cell? ⟨v5.heap.size, 10, none⟩ = some (.slice m2 l2 d2) := cells_below HR.out (row_cell HT2.out 10) HZ6.out.2.2
      clear b5
      have hst := HST.out p1 c1 m1 d1 p2 c2 m2 d2 wr (HJ1.out.below HR.out) (HJ2.out.below HR.out) (HK1.out.below HR.out) (HK2.out.below HR.out)
      have HS := Lib.hid hst
      clear hst
      go_wp2_with fail
      refine HS.out.mono ?_
      rintro e v7 ⟨rfl, hb⟩
      have HB7 := Lib.hid (HB6.out.trans ((HR.out.trans (hb.mono HR.out.size)).mono HB6.out.size))
      clear hb
      go_wp2
      go_ret
      exact ⟨rfl, HB7.out⟩
end Go.Proofs.YtfhnigfghfmolaaDoor
namespace Go.Proofs.YtfhnigfghfmolaaDoor
set_option maxRecDepth 100000
open Go.RowKit

theorem run_neq_regs (r0 r1 r2 r3 r4 r5 r6 r7 : Int) (W : World) :
    (binOp .neq 30 (.agg #[.int .u64 r0, .int .u64 r1, .int .u64 r2, .int .u64 r3, .int .u64 r4, .int .u64 r5, .int .u64 r6, .int .u64 r7]) (.agg #[.int .u64 r0, .int .u64 r1, .int .u64 r2, .int .u64 r3, .int .u64 r4, .int .u64 r5, .int .u64 r6, .int .u64 r7])).run Tryd.prog W =
      .ok (.bool false) W := by
  obtain ⟨i, hi⟩ : ∃ i, Tryd.prog.info? 29 = some i := Option.isSome_iff_exists.1 (by kernel_rfl)
  have h29 := Tryd.underlying29
  have hk : (Op.equalIn 10000 30 (.agg #[.int .u64 r0, .int .u64 r1, .int .u64 r2, .int .u64 r3, .int .u64 r4, .int .u64 r5, .int .u64 r6, .int .u64 r7]) (.agg #[.int .u64 r0, .int .u64 r1, .int .u64 r2, .int .u64 r3, .int .u64 r4, .int .u64 r5, .int .u64 r6, .int .u64 r7])).run Tryd.prog W =
      .ok true W := by
    rw [run_equalIn_array (P := Tryd.prog) W 9999 _ _ Tryd.underlying30 hi, show Tryd.prog.cellsOf 29 = 1 by kernel_rfl]
    simp only [List.range, List.range.loop, Op.eqItems]
    go_simp
  simp only [binOp]
  simp [Op.equal, Op.maxDepth, hk]

/-- Start, with the state's value. -/
theorem Start_st (H : Hd) (w : World) (HA : HdAt w H) (hR : Mc.R H.p) :
    Calls Tryd.prog 22 #[.agg #[.int .i64 H.mem, .int .i64 H.stk, .int .i64 H.inp, .slice H.Ad H.ld H.cd, .slice H.Af H.lf H.cf, .slice H.Ac H.lc H.cc]] w fun e w' => ∃ mA mcap, e = .returned (.agg (stC (Mc.start H.p) (.slice mA (Mc.start H.p).mm.length mcap) (.slice none 0 0))) ∧
      w'.ownsRow w.heap.size 5 1 (.slice mA (Mc.start H.p).mm.length mcap) (Mc.start H.p).mm.length ((Mc.start H.p).mm.map (Value.int .u8)) ∧ Below w.heap.size w w' := by
  have hC := hR.cnt
  have hm0 : 0 ≤ H.mem ∧ H.mem ≤ 64 ∧ (H.ld : Int) ≤ H.mem := by have := hC.1; have := hC.2.2.2.1; have := HA.e0; have := HA.img.d.hlen; omega
  have hok0 := Mc.mem0_ok hR HA.img.d.isB
  refine (start_any _ _ _ _ _ _ _ _ _ _ _ _ H.p w HA.img HA.e0 hm0.1 hm0.2.1 hm0.2.2).mono ?_
  rintro e v3 ⟨g, n, rfl, hg, hmn, hmem, hb⟩
  have hst : Mc.start H.p = ⟨0, [0, 0, 0, 0, 0, 0, 0, 0], Mc.mem0 H.p, []⟩ := rfl
  have hmlen : (Mc.mem0 H.p).length = n := by
    have h1 := hok0.ml
    have h2 := HA.e0
    rw [hst] at h1
    simp only at h1
    omega
  refine ⟨some ⟨g, 0, none⟩, n, ?_, ?_, hb⟩
  · rw [hst]; simp [stC, hmlen]
  · rw [hst]
    simp only
    rw [hmlen]
    exact ⟨by simp [hmlen], .inr ⟨g, n, _, rfl, hg, hmem, Nat.le_refl _, by unfold maxLen; omega, by simp [hmlen], by rw [Nat.mul_one, ← hmlen, ← List.length_map (f := Value.int .u8)]; exact List.take_length⟩⟩
/-- A state in memory. -/
def StAt (wr : World) (g : Nat) (s : Mc.St) : Prop := ∃ mA mcap oA ocap, wr.heap[g]? = some (.cells (stC s (.slice mA s.mm.length mcap) (.slice oA s.op.length ocap)) 43 (0, 0)) ∧
  wr.ownsRow 0 5 1 (.slice mA s.mm.length mcap) s.mm.length (s.mm.map (Value.int .u8)) ∧ wr.ownsRow 0 3 1 (.slice oA s.op.length ocap) s.op.length (s.op.map (Value.int .i64)) ∧ (Value.slice mA s.mm.length mcap).ownBlock ≠ some g ∧ (Value.slice oA s.op.length ocap).ownBlock ≠ some g

set_option maxRecDepth 20000 in
set_option maxHeartbeats 12800000 in
theorem goes_walk (mem stk inp : Int) (Ad : Option Addr) (ld cd : Nat) (Af : Option Addr) (lf cf : Nat) (Ac : Option Addr) (lc cc : Nat) (P : Im.Pic) (Ai : Option Addr) (li ci : Nat) (xs : List Int) (steps : Int) (w : World) (ho : Ops w) (hi : ImAt w Ad ld cd Af lf cf Ac lc cc P) (e0 : P.mem = mem) (e1 : P.stk = stk) (e2 : P.inp = inp) (hx : BySl w Ai li ci xs) :
    Calls Tryd.prog 5 #[.agg #[.int .i64 mem, .int .i64 stk, .int .i64 inp, .slice Ad ld cd, .slice Af lf cf, .slice Ac lc cc], .slice Ai li ci, .int .i64 steps] w fun e w' => e = .returned (.bool true) ∧ Below w.heap.size w w' := by
  have hp := ho.pos
  have HA : HdAt w ⟨mem, stk, inp, Ad, ld, cd, Af, lf, cf, Ac, lc, cc, Ai, li, ci, P, xs⟩ := ⟨hi, e0, e1, e2, hx⟩
  have hld := Nat.le_trans hi.d.hle hi.d.hcap
  have hlf := Nat.le_trans hi.f.hle hi.f.hcap
  have hlc := Nat.le_trans hi.c.hle hi.c.hcap
  have hli := Nat.le_trans hx.hle hx.hcap
  have hgr := fun W => great_any mem stk inp Ad ld cd Af lf cf Ac lc cc Ai li ci steps W hld hlf hlc hli
  unfold maxLen at hli hlc
  have haw : ∀ W, Below w.heap.size w W → Calls Tryd.prog 10 #[] W fun e w' => e = .returned (.bool true) ∧ Below W.heap.size W w' := fun W hW => mc_awake W (ho.below hW hp)
  have hr1 : ∀ W, Below w.heap.size w W → Calls Tryd.prog 12 #[.agg #[.int .i64 mem, .int .i64 stk, .int .i64 inp, .slice Ad ld cd, .slice Af lf cf, .slice Ac lc cc], .slice Ai li ci, .int .i64 steps] W (RunA (Mc.answer P xs steps) W) := fun W hW => run_any ⟨mem, stk, inp, Ad, ld, cd, Af, lf, cf, Ac, lc, cc, Ai, li, ci, P, xs⟩ steps W (ho.below hW hp) (HA.below hW)
  have hr2 : ∀ W t, Below w.heap.size w W → Calls Tryd.prog 12 #[.agg #[.int .i64 mem, .int .i64 stk, .int .i64 inp, .slice Ad ld cd, .slice Af lf cf, .slice Ac lc cc], .slice Ai li ci, .int .i64 t] W (RunA (Mc.answer P xs t) W) := fun W t hW => run_any ⟨mem, stk, inp, Ad, ld, cd, Af, lf, cf, Ac, lc, cc, Ai, li, ci, P, xs⟩ t W (ho.below hW hp) (HA.below hW)
  have hstt : Mc.R P → ∀ W, Below w.heap.size w W → _ := fun hR W hW => Start_st ⟨mem, stk, inp, Ad, ld, cd, Af, lf, cf, Ac, lc, cc, Ai, li, ci, P, xs⟩ W (HA.below hW) hR
  have hstp : Mc.R P → ∀ s, Mc.Ok P s → ∀ W mA mn mcap oA on ocap, Below w.heap.size w W → BySl W mA mn mcap s.mm → InSl W oA on ocap s.op → _ := fun hR s hok W mA mn mcap oA on ocap hW hm hp' => Step_st ⟨mem, stk, inp, Ad, ld, cd, Af, lf, cf, Ac, lc, cc, Ai, li, ci, P, xs⟩ s mA mn mcap oA on ocap W (ho.below hW hp) (HA.below hW) hR hok hm hp'
  have hfx : steps ≤ 300 → (Mc.answer P xs steps).2.2.2.2 = 0 → _ := fun hs he => Mc.goes_all (p := P) (xs := xs) (steps := steps) hi.c.rng hx.isB hi.d.isB he hs
  have hnil : (Mc.answer P xs steps).2.2.2.2 ≠ 0 → _ := fun he => Mc.answer_nil he
  have hgs : greatB ld lf lc li steps = false → steps ≤ 300 := fun h => by
    unfold greatB at h
    simp at h
    omega
  obtain ⟨T, hT⟩ : ∃ T, T = max steps 0 := ⟨_, rfl⟩
  have hmx : ∀ ts t W, (Builtin.max_ ts t #[.int .i64 steps, .int .i64 0]).run Tryd.prog W = .ok (.int .i64 T) W := fun ts t W => by
    have : T = if steps < 0 then 0 else steps := by rw [hT]; split <;> omega
    rw [this]
    simp [Builtin.max_, Builtin.max2]
  rw [← hT] at hfx
  generalize Mc.answer P xs steps = a at *
  obtain ⟨A1, en1, rg1, mm1, er1⟩ := a
  have hr1 : ∀ W, Below w.heap.size w W → Calls Tryd.prog 12 #[.agg #[.int .i64 mem, .int .i64 stk, .int .i64 inp, .slice Ad ld cd, .slice Af lf cf, .slice Ac lc cc], .slice Ai li ci, .int .i64 steps] W fun e w' => ∃ pA pcap mA mcap, e = .returned (.tuple #[.agg #[.slice pA A1.length pcap, .int .i64 en1, .int .u64 (rg1.getD 0 0), .int .u64 (rg1.getD 1 0), .int .u64 (rg1.getD 2 0), .int .u64 (rg1.getD 3 0), .int .u64 (rg1.getD 4 0), .int .u64 (rg1.getD 5 0), .int .u64 (rg1.getD 6 0), .int .u64 (rg1.getD 7 0), .slice mA mm1.length mcap], .int .i64 er1]) ∧ InSl w' pA A1.length pcap A1 ∧ BySl w' mA mm1.length mcap mm1 ∧ Below W.heap.size W w' := hr1
  simp only at hfx hnil
  obtain ⟨r0, hg0⟩ : ∃ z, rg1.getD 0 0 = z := ⟨_, rfl⟩
  obtain ⟨r1, hg1⟩ : ∃ z, rg1.getD 1 0 = z := ⟨_, rfl⟩
  obtain ⟨r2, hg2⟩ : ∃ z, rg1.getD 2 0 = z := ⟨_, rfl⟩
  obtain ⟨r3, hg3⟩ : ∃ z, rg1.getD 3 0 = z := ⟨_, rfl⟩
  obtain ⟨r4, hg4⟩ : ∃ z, rg1.getD 4 0 = z := ⟨_, rfl⟩
  obtain ⟨r5, hg5⟩ : ∃ z, rg1.getD 5 0 = z := ⟨_, rfl⟩
  obtain ⟨r6, hg6⟩ : ∃ z, rg1.getD 6 0 = z := ⟨_, rfl⟩
  obtain ⟨r7, hg7⟩ : ∃ z, rg1.getD 7 0 = z := ⟨_, rfl⟩
  simp only [hg0, hg1, hg2, hg3, hg4, hg5, hg6, hg7] at hr1
  have HG := Lib.hid (And.intro hg0 (And.intro hg1 (And.intro hg2 (And.intro hg3 (And.intro hg4 (And.intro hg5 (And.intro hg6 hg7)))))))
  obtain ⟨n1, hn1⟩ : ∃ n1, A1.length = n1 := ⟨_, rfl⟩
  obtain ⟨l1, hl1⟩ : ∃ l1, mm1.length = l1 := ⟨_, rfl⟩
  simp only [hn1, hl1] at hr1
  have hq := hgr
  generalize greatB ld lf lc li steps = q at *
  have HGR := Lib.hid hq
  have HAW := Lib.hid haw
  have HR1 := Lib.hid hr1
  have HR2 := Lib.hid hr2
  have HSTT := Lib.hid hstt
  have HSTP := Lib.hid hstp
  have HFX := Lib.hid hfx
  have HNIL := Lib.hid hnil
  have HGS := Lib.hid hgs
  have HMX := Lib.hid hmx
  have HN1 := Lib.hid hn1
  have HL1 := Lib.hid hl1
  have HE1 := Lib.hid e1
  have HTT := Lib.hid hT
  clear hq haw hr1 hr2 hstt hstp hfx hnil hgs hmx hn1 hl1 e1 hT hgr hi hx HA e0 e2 ho hg0 hg1 hg2 hg3 hg4 hg5 hg6 hg7
  go_enter Tryd.func5, Tryd.ntmps5
  go_wp2_with fail
  have hB0 := Below.box w (.cells #[.int .i64 mem, .int .i64 stk, .int .i64 inp, .slice Ad ld cd, .slice Af lf cf, .slice Ac lc cc] 26)
  have hX0 : (w.alloc (.cells #[.int .i64 mem, .int .i64 stk, .int .i64 inp, .slice Ad ld cd, .slice Af lf cf, .slice Ac lc cc] 26)).heap[w.heap.size]? = some (.cells #[.int .i64 mem, .int .i64 stk, .int .i64 inp, .slice Ad ld cd, .slice Af lf cf, .slice Ac lc cc] 26 (0, 0)) := heap_newM rfl
  have hz0 : w.heap.size < (w.alloc (.cells #[.int .i64 mem, .int .i64 stk, .int .i64 inp, .slice Ad ld cd, .slice Af lf cf, .slice Ac lc cc] 26)).heap.size := by simp
  generalize w.alloc (.cells #[.int .i64 mem, .int .i64 stk, .int .i64 inp, .slice Ad ld cd, .slice Af lf cf, .slice Ac lc cc] 26) = w0 at *
  refine (HAW.out _ hB0).mono ?_
  rintro e v ⟨rfl, hb⟩
  have HX1 := Lib.hid ((hb.block _ hz0).trans hX0)
  have HB1 := Lib.hid (hB0.trans (hb.mono hB0.size))
  have HZ1 := Lib.hid (Nat.lt_of_lt_of_le hz0 hb.size)
  clear hB0 hX0 hz0 hb
  have q0 := row_cell HX1.out 0
  have q1 := row_cell HX1.out 1
  have q2 := row_cell HX1.out 2
  have q3 := row_cell HX1.out 3
  have q4 := row_cell HX1.out 4
  have q5 := row_cell HX1.out 5
  simp at q0 q1 q2 q3 q4 q5
  go_wp2_with fail
  refine (HGR.out _).mono ?_
  rintro e v2 ⟨rfl, hb⟩
  have HX2 := Lib.hid ((hb.block _ HZ1.out).trans HX1.out)
  have HB2 := Lib.hid (HB1.out.trans (hb.mono HB1.out.size))
  have HZ2 := Lib.hid (Nat.lt_of_lt_of_le HZ1.out hb.size)
  clear hb
  clear q0 q1 q2 q3 q4 q5
  have q0 := row_cell HX2.out 0
  have q1 := row_cell HX2.out 1
  have q2 := row_cell HX2.out 2
  have q3 := row_cell HX2.out 3
  have q4 := row_cell HX2.out 4
  have q5 := row_cell HX2.out 5
  simp at q0 q1 q2 q3 q4 q5
  by_cases hq : q = true
  · subst hq
    go_wp2
    go_ret
    exact ⟨rfl, HB2.out⟩
  have hq : q = false := by simpa using hq
  subst hq
  have HG3 := Lib.hid (HGS.out rfl)
  clear HGS
  go_wp2_with fail
  refine (HR1.out _ HB2.out).mono ?_
  rintro e v3 ⟨p1, c1, m1, d1, rfl, hin1, hby1, hb⟩
  have HX3 := Lib.hid ((hb.block _ HZ2.out).trans HX2.out)
  have HB3 := Lib.hid (HB2.out.trans (hb.mono HB2.out.size))
  have HZ3 := Lib.hid (Nat.lt_of_lt_of_le HZ2.out hb.size)
  have HIN1 := Lib.hid hin1
  have HBY1 := Lib.hid hby1
  have hlt1 := Nat.le_trans hin1.hle hin1.hcap
  unfold maxLen at hlt1
  clear hb hin1 hby1
  clear q0 q1 q2 q3 q4 q5
  have q0 := row_cell HX3.out 0
  have q1 := row_cell HX3.out 1
  have q2 := row_cell HX3.out 2
  have q3 := row_cell HX3.out 3
  have q4 := row_cell HX3.out 4
  have q5 := row_cell HX3.out 5
  simp at q0 q1 q2 q3 q4 q5
  have hne : w.heap.size ≠ v3.heap.size := by have := HZ3.out; omega
  have hvs := HZ3.out
  by_cases he : er1 ≠ 0
  · have he' : (er1 != 0) = true := by simpa using he
    have hn0 : n1 = 0 := by rw [← HN1.out, HNIL.out he]; rfl
    subst hn0
    clear he
    go_wp2
    go_ret
    exact ⟨rfl, HB3.out.trans ((Below.box _ _).mono HB3.out.size)⟩
  have he : er1 = 0 := Decidable.not_not.1 he
  subst he
  obtain ⟨hR, hlx, m, hok, hst, hlen, hget, hrg, hmm, hmT, hend, hm0, hAm⟩ := HFX.out HG3.out rfl
  have HR := Lib.hid hR
  have HOK := Lib.hid hok
  have HST := Lib.hid hst
  have HGET := Lib.hid hget
  have HRG := Lib.hid hrg
  have HMM := Lib.hid hmm
  have HMT := Lib.hid hmT
  have HEND := Lib.hid hend
  have HM0 := Lib.hid hm0
  have HAM := Lib.hid hAm
  have hnm : n1 = m + 1 := by rw [← HN1.out]; exact hlen
  have HNM := Lib.hid hnm
  clear hR hlx hok hst hlen hget hrg hmm hmT hend hm0 hAm hnm
  go_wp2_with fail
  have hB4 : Below v3.heap.size v3 (v3.alloc (.cells #[.slice p1 n1 c1, .int .i64 en1, .int .u64 r0, .int .u64 r1, .int .u64 r2, .int .u64 r3, .int .u64 r4, .int .u64 r5, .int .u64 r6, .int .u64 r7, .slice m1 l1 d1] 32)) := Below.box _ _
  have hX4 : (v3.alloc (.cells #[.slice p1 n1 c1, .int .i64 en1, .int .u64 r0, .int .u64 r1, .int .u64 r2, .int .u64 r3, .int .u64 r4, .int .u64 r5, .int .u64 r6, .int .u64 r7, .slice m1 l1 d1] 32)).heap[v3.heap.size]? = some (.cells #[.slice p1 n1 c1, .int .i64 en1, .int .u64 r0, .int .u64 r1, .int .u64 r2, .int .u64 r3, .int .u64 r4, .int .u64 r5, .int .u64 r6, .int .u64 r7, .slice m1 l1 d1] 32 (0, 0)) := heap_newM rfl
  have hz4 : (v3.alloc (.cells #[.slice p1 n1 c1, .int .i64 en1, .int .u64 r0, .int .u64 r1, .int .u64 r2, .int .u64 r3, .int .u64 r4, .int .u64 r5, .int .u64 r6, .int .u64 r7, .slice m1 l1 d1] 32)).heap.size = v3.heap.size + 1 := by simp
  generalize v3.alloc (.cells #[.slice p1 n1 c1, .int .i64 en1, .int .u64 r0, .int .u64 r1, .int .u64 r2, .int .u64 r3, .int .u64 r4, .int .u64 r5, .int .u64 r6, .int .u64 r7, .slice m1 l1 d1] 32) = w4 at *
  refine (HSTT.out HR.out _ (HB3.out.trans (hB4.mono HB3.out.size))).mono ?_
  rintro e v5 ⟨mA, mcap, rfl, hmo, hb⟩
  have hB5 : Below v3.heap.size v3 v5 := hB4.trans (hb.mono hB4.size)
  have HX5 := Lib.hid ((hB5.block _ HZ3.out).trans HX3.out)
  have HT5 := Lib.hid ((hb.block _ (by omega)).trans hX4)
  have HB5 := Lib.hid (HB3.out.trans (hB5.mono HB3.out.size))
  have HZ5 := Lib.hid (show w.heap.size < v3.heap.size ∧ v3.heap.size < v5.heap.size from ⟨HZ3.out, by have := hb.size; omega⟩)
  have HI1 := Lib.hid (HIN1.out.below hB5)
  have HY1 := Lib.hid (HBY1.out.below hB5)
  have HMO := Lib.hid hmo
  clear hb hB4 hX4 hz4 hB5 hne hvs q0 q1 q2 q3 q4 q5 hmo
  simp only [stC, show (Mc.start P).pl = 0 from rfl, show ∀ j, (Mc.start P).rg.getD j 0 = 0 from fun j => by match j with | 0 => rfl | 1 => rfl | 2 => rfl | 3 => rfl | 4 => rfl | 5 => rfl | 6 => rfl | 7 => rfl | (n+8) => rfl]
  obtain ⟨ml, hml⟩ : ∃ ml, (Mc.start P).mm.length = ml := ⟨_, rfl⟩
  have HML := Lib.hid hml
  rw [hml]
  clear hml
  go_wp2_with fail
  have hB6 := Below.box v5 (.cells #[.int .i64 0, .int .u64 0, .int .u64 0, .int .u64 0, .int .u64 0, .int .u64 0, .int .u64 0, .int .u64 0, .int .u64 0, .slice mA ml mcap, .slice none 0 0] 43)
  have hX6 : (v5.alloc (.cells #[.int .i64 0, .int .u64 0, .int .u64 0, .int .u64 0, .int .u64 0, .int .u64 0, .int .u64 0, .int .u64 0, .int .u64 0, .slice mA ml mcap, .slice none 0 0] 43)).heap[v5.heap.size]? = some (.cells #[.int .i64 0, .int .u64 0, .int .u64 0, .int .u64 0, .int .u64 0, .int .u64 0, .int .u64 0, .int .u64 0, .int .u64 0, .slice mA ml mcap, .slice none 0 0] 43 (0, 0)) := heap_newM rfl
  have hz6 : (v5.alloc (.cells #[.int .i64 0, .int .u64 0, .int .u64 0, .int .u64 0, .int .u64 0, .int .u64 0, .int .u64 0, .int .u64 0, .int .u64 0, .slice mA ml mcap, .slice none 0 0] 43)).heap.size = v5.heap.size + 1 := by simp
  generalize v5.alloc (.cells #[.int .i64 0, .int .u64 0, .int .u64 0, .int .u64 0, .int .u64 0, .int .u64 0, .int .u64 0, .int .u64 0, .int .u64 0, .slice mA ml mcap, .slice none 0 0] 43) = w6 at *
  obtain ⟨bp, op, rfl, hbp, _⟩ := HI1.out.mem (by have := HNM.out; omega)
  have HX6 := Lib.hid ((hB6.block _ (by have := HZ5.out; omega)).trans HX5.out)
  have HT6 := Lib.hid ((hB6.block _ HZ5.out.2).trans HT5.out)
  have HB56 := Lib.hid hB6
  have HB6 := Lib.hid (HB5.out.trans (hB6.mono HB5.out.size))
  have HZ6 := Lib.hid (show w.heap.size < v3.heap.size ∧ v3.heap.size < v5.heap.size ∧ v5.heap.size < w6.heap.size from ⟨HZ5.out.1, HZ5.out.2, by omega⟩)
  have HI6 := Lib.hid (HI1.out.below hB6)
  have HY6 := Lib.hid (HY1.out.below hB6)
  have hs6 : StAt w6 v5.heap.size (Mc.start P) := by
    have hmo := own_below HMO.out hB6
    rw [HML.out] at hmo
    refine ⟨mA, mcap, none, 0, ?_, ?_, World.ownsRow_nil _ _ _ _, ?_, by simp [Value.ownBlock]⟩
    · rw [HML.out, hX6]; rfl
    · rw [HML.out]; exact Joins.ownsRow_le hmo (Nat.zero_le _)
    · intro e
      rw [HML.out] at e
      have := (HMO.out.lt v5.heap.size (by rw [HML.out]; exact e)).2
      omega
  have HS6 := Lib.hid hs6
  have t0 := row_cell HT6.out 0
  have s0 := row_cell hX6 0
  simp at t0 s0
  have hgt0 : A1.getD 0 0 = 0 := HGET.out 0 (by omega)
  have ck : w6.cell? ⟨bp, op, none⟩ = some (.int .i64 0) := by
    obtain ⟨b', o', he, _, hc⟩ := HI6.out.mem (by have := HNM.out; omega)
    injection he with he
    injection he with h1 h2
    subst h1 h2
    have := hc 0 (by have := HNM.out; omega)
    rwa [hgt0] at this
  have hltm : ¬ (n1 : Int) < 1 := by have := HNM.out; omega
  have hltp : 0 < n1 := by have := HNM.out; omega
  clear hB6 hX6 hz6 hgt0 hbp hs6
  go_quiet (fail)
  go_wp2_with fail
  have hs7 := HS6.out
  go_loopw [10, 11, 12] (fun i _ _ wr => ∃ k : Nat, 1 ≤ k ∧ k ≤ n1 ∧ i = .int .i64 k ∧ Below v5.heap.size v5 wr ∧ StAt wr v5.heap.size (Mc.stN P xs (k - 1) (Mc.start P))) (fun i _ _ _ => n1 - (intOf i).toNat)
  case atStart => exact ⟨1, Nat.le_refl _, by have := HNM.out; omega, rfl, below_drewN HB56.out nq, by
    obtain ⟨a1, a2, a3, a4, h1, h2, h3, h4, h5⟩ := HS6.out
    exact ⟨a1, a2, a3, a4, h1, h2, h3, h4, h5⟩⟩
  case round =>
    obtain ⟨k, hk1, hk, rfl, hbr, hsa⟩ := hrel
    obtain ⟨j, hj⟩ : ∃ j, k = j + 1 := ⟨k - 1, by omega⟩
    have hkj : k - 1 = j := by omega
    rw [hkj] at hsa
    have HBR := Lib.hid hbr
    obtain ⟨sA, scap, oA, ocap, hrow, hsm, hso, hnm, hno⟩ := hsa
    have hBw := HB5.out.trans (hbr.mono (show w.heap.size ≤ v5.heap.size by have := HZ6.out; omega))
    have hokk := HOK.out j
    have hsl : BySl wr sA _ scap _ := BySl.of_own hsm hokk.mb
    have hol : InSl wr oA _ ocap _ := InSl.of_own hso
    have hcall := HSTP.out HR.out _ hokk wr sA _ scap oA _ ocap hBw hsl hol
    have hnext : Mc.stN P xs (j + 1) (Mc.start P) = (Mc.step P xs (Mc.stN P xs j (Mc.start P))).1 := Mc.stN_succ _ _
    have hss := @Mc.step_stay P xs (Mc.stN P xs j (Mc.start P))
    have hst := HST.out j
    have hgk1 := HGET.out (j + 1)
    have hok1 := HOK.out (j + 1)
    have hnk : Mc.stN P xs k (Mc.start P) = Mc.stN P xs (j + 1) (Mc.start P) := by rw [hj]
    rw [hnext] at hgk1 hok1 hnk
    have hlast : j = m → rg1 = (Mc.stN P xs j (Mc.start P)).rg ∧ mm1 = (Mc.stN P xs j (Mc.start P)).mm ∧ ((en1 = 0 ∧ (m : Int) = T) ∨ (en1 ≠ 0 ∧ en1 = (Mc.step P xs (Mc.stN P xs j (Mc.start P))).2 ∧ Mc.answer P xs 300 = (A1, en1, rg1, mm1, 0))) := fun e => by
      subst e
      exact ⟨HRG.out, HMM.out, HEND.out⟩
    have hsgetl := hokk.rl
    clear hokk hnext
    generalize Mc.stN P xs j (Mc.start P) = s at *
    generalize Mc.step P xs s = r at *
    obtain ⟨⟨tp, tq, tm, to⟩, en'⟩ := r
    obtain ⟨sp, sr, sm, so⟩ := s
    simp only [stC] at hcall hrow hsm hso hnm hno hsl hol hss hst hgk1 hok1 hnk hlast
    generalize hsml : sm.length = sml at *
    generalize hsol : so.length = sol at *
    generalize html : tm.length = tml at *
    generalize htol : to.length = tol at *
    obtain ⟨z0, hz0⟩ : ∃ z, sr.getD 0 0 = z := ⟨_, rfl⟩
    obtain ⟨z1, hz1⟩ : ∃ z, sr.getD 1 0 = z := ⟨_, rfl⟩
    obtain ⟨z2, hz2⟩ : ∃ z, sr.getD 2 0 = z := ⟨_, rfl⟩
    obtain ⟨z3, hz3⟩ : ∃ z, sr.getD 3 0 = z := ⟨_, rfl⟩
    obtain ⟨z4, hz4⟩ : ∃ z, sr.getD 4 0 = z := ⟨_, rfl⟩
    obtain ⟨z5, hz5⟩ : ∃ z, sr.getD 5 0 = z := ⟨_, rfl⟩
    obtain ⟨z6, hz6⟩ : ∃ z, sr.getD 6 0 = z := ⟨_, rfl⟩
    obtain ⟨z7, hz7⟩ : ∃ z, sr.getD 7 0 = z := ⟨_, rfl⟩
    obtain ⟨y0, hy0⟩ : ∃ z, tq.getD 0 0 = z := ⟨_, rfl⟩
    obtain ⟨y1, hy1⟩ : ∃ z, tq.getD 1 0 = z := ⟨_, rfl⟩
    obtain ⟨y2, hy2⟩ : ∃ z, tq.getD 2 0 = z := ⟨_, rfl⟩
    obtain ⟨y3, hy3⟩ : ∃ z, tq.getD 3 0 = z := ⟨_, rfl⟩
    obtain ⟨y4, hy4⟩ : ∃ z, tq.getD 4 0 = z := ⟨_, rfl⟩
    obtain ⟨y5, hy5⟩ : ∃ z, tq.getD 5 0 = z := ⟨_, rfl⟩
    obtain ⟨y6, hy6⟩ : ∃ z, tq.getD 6 0 = z := ⟨_, rfl⟩
    obtain ⟨y7, hy7⟩ : ∃ z, tq.getD 7 0 = z := ⟨_, rfl⟩
    simp only [hz0, hz1, hz2, hz3, hz4, hz5, hz6, hz7, hy0, hy1, hy2, hy3, hy4, hy5, hy6, hy7] at hcall hrow
    have hstk : ¬ stk < (tol : Int) := by have h1 := hok1.ol; have h2 := HE1.out; simp only at h1; rw [htol] at h1; omega
    have HZS := Lib.hid (And.intro hz0 (And.intro hz1 (And.intro hz2 (And.intro hz3 (And.intro hz4 (And.intro hz5 (And.intro hz6 hz7)))))))
    have HYS := Lib.hid (And.intro hy0 (And.intro hy1 (And.intro hy2 (And.intro hy3 (And.intro hy4 (And.intro hy5 (And.intro hy6 hy7)))))))
    have HCALL := Lib.hid hcall
    have HROW := Lib.hid hrow
    have HSM := Lib.hid hsm
    have HSO := Lib.hid hso
    have HNMO := Lib.hid (And.intro hnm hno)
    have HSS := Lib.hid hss
    have HSTJ := Lib.hid hst
    have HGK := Lib.hid hgk1
    have HNK := Lib.hid hnk
    have HLAST := Lib.hid hlast
    have HJ := Lib.hid hj
    have HLN := Lib.hid (And.intro (And.intro hsml hsol) (And.intro html htol))
    have HKK := Lib.hid (And.intro hk1 hk)
    have hwl : w.heap.size < v5.heap.size := by have := HZ6.out; omega
    have hvl : v3.heap.size < v5.heap.size := by have := HZ6.out; omega
    have t0 := cells_below hbr (row_cell HT5.out 0) hvl
    simp at t0
    have q0 := cells_below hbr (row_cell HX5.out 0) (hwl)
    have q1 := cells_below hbr (row_cell HX5.out 1) (hwl)
    have q2 := cells_below hbr (row_cell HX5.out 2) (hwl)
    have q3 := cells_below hbr (row_cell HX5.out 3) (hwl)
    have q4 := cells_below hbr (row_cell HX5.out 4) (hwl)
    have q5 := cells_below hbr (row_cell HX5.out 5) (hwl)
    simp at q0 q1 q2 q3 q4 q5
    have x0 := row_cell HROW.out 0
    have x1 := row_cell HROW.out 1
    have x2 := row_cell HROW.out 2
    have x3 := row_cell HROW.out 3
    have x4 := row_cell HROW.out 4
    have x5 := row_cell HROW.out 5
    have x6 := row_cell HROW.out 6
    have x7 := row_cell HROW.out 7
    have x8 := row_cell HROW.out 8
    have x9 := row_cell HROW.out 9
    have x10 := row_cell HROW.out 10
    simp at x0 x1 x2 x3 x4 x5 x6 x7 x8 x9 x10
    have hgsz := (Array.getElem?_eq_some_iff.1 hrow).1
    have HGSZ := Lib.hid hgsz
    clear hcall hrow hsm hso hnm hno hsl hol hss hst hgk1 hok1 hnk hlast hj hkj hBw hsml hsol html htol hbr hk1 hk hz0 hz1 hz2 hz3 hz4 hz5 hz6 hz7 hy0 hy1 hy2 hy3 hy4 hy5 hy6 hy7 hsgetl hgsz
    by_cases hlt : k < n1
    · have hki : (k : Int) < n1 := by omega
      have hen : en' = 0 := HSTJ.out (by have := HNM.out; have := HJ.out; omega)
      subst hen
      go_wp2_with fail
      refine HCALL.out.mono ?_
      rintro e v7 ⟨mA', mcap', oA', ocap', rfl, ⟨hmo, hib⟩, hoo, hb⟩
      have HMO7 := Lib.hid hmo
      have HOO7 := Lib.hid hoo
      have HB7 := Lib.hid hb
      clear hmo hoo hib hb t0 q0 q1 q2 q3 q4 q5 x0 x1 x2 x3 x4 x5 x6 x7 x8 x9 x10
      go_wp2_with fail
      have hB8 := Below.box v7 (.cells #[.int .i64 tp, .int .u64 y0, .int .u64 y1, .int .u64 y2, .int .u64 y3, .int .u64 y4, .int .u64 y5, .int .u64 y6, .int .u64 y7, .slice mA' tml mcap', .slice oA' tol ocap'] 43)
      have hX8 : (v7.alloc (.cells #[.int .i64 tp, .int .u64 y0, .int .u64 y1, .int .u64 y2, .int .u64 y3, .int .u64 y4, .int .u64 y5, .int .u64 y6, .int .u64 y7, .slice mA' tml mcap', .slice oA' tol ocap'] 43)).heap[v7.heap.size]? = some (.cells #[.int .i64 tp, .int .u64 y0, .int .u64 y1, .int .u64 y2, .int .u64 y3, .int .u64 y4, .int .u64 y5, .int .u64 y6, .int .u64 y7, .slice mA' tml mcap', .slice oA' tol ocap'] 43 (0, 0)) := heap_newM rfl
      have hz8 : (v7.alloc (.cells #[.int .i64 tp, .int .u64 y0, .int .u64 y1, .int .u64 y2, .int .u64 y3, .int .u64 y4, .int .u64 y5, .int .u64 y6, .int .u64 y7, .slice mA' tml mcap', .slice oA' tol ocap'] 43)).heap.size = v7.heap.size + 1 := by simp
      generalize v7.alloc (.cells #[.int .i64 tp, .int .u64 y0, .int .u64 y1, .int .u64 y2, .int .u64 y3, .int .u64 y4, .int .u64 y5, .int .u64 y6, .int .u64 y7, .slice mA' tml mcap', .slice oA' tol ocap'] 43) = w8 at *
      have hb8 : Below v5.heap.size v5 w8 := (HBR.out.trans (HB7.out.mono HBR.out.size)).trans (hB8.mono (by have := HBR.out.size; have := HB7.out.size; omega))
      have t0 := cells_below hb8 (row_cell HT5.out 0) hvl
      have q1 := cells_below hb8 (row_cell HX5.out 1) hwl
      simp at t0 q1
      have u0 := row_cell hX8 0
      have u1 := row_cell hX8 1
      have u2 := row_cell hX8 2
      have u3 := row_cell hX8 3
      have u4 := row_cell hX8 4
      have u5 := row_cell hX8 5
      have u6 := row_cell hX8 6
      have u7 := row_cell hX8 7
      have u8 := row_cell hX8 8
      have u9 := row_cell hX8 9
      have u10 := row_cell hX8 10
      simp at u0 u1 u2 u3 u4 u5 u6 u7 u8 u9 u10
      have ck : w8.cell? ⟨bp, op + k, none⟩ = some (.int .i64 tp) := by
        obtain ⟨b', o', he, _, hc⟩ := (HI1.out.below hb8).mem (by omega)
        injection he with he
        injection he with h1 h2
        subst h1 h2
        have h3 := hc k hlt
        have h4 := HGK.out (by have := HNM.out; have := HJ.out; omega)
        rw [← HJ.out] at h4
        rwa [h4] at h3
      have hrow8 : w8.heap[v5.heap.size]? = _ := (hB8.block _ (by have := HB7.out.size; have := HGSZ.out; omega)).trans ((HB7.out.block _ HGSZ.out).trans HROW.out)
      have HROW8 := Lib.hid hrow8
      have HB8 := Lib.hid hb8
      have HOWN8 := Lib.hid (And.intro (own_below HMO7.out hB8) (own_below HOO7.out hB8))
      clear hB8 hX8 hz8 hb8 hrow8
      go_quiet (fail)
      have hX9 : (w8.drewN nq).heap[v5.heap.size]? = _ := HROW8.out
      have HX9 := Lib.hid hX9
      have h1c : (#[.int .i64 tp, .int .u64 y0, .int .u64 y1, .int .u64 y2, .int .u64 y3, .int .u64 y4, .int .u64 y5, .int .u64 y6, .int .u64 y7, .slice mA' tml mcap', .slice oA' tol ocap'] : Array Value).all (·.oneCell') = true := by simp [Value.oneCell']
      have H1C := Lib.hid h1c
      clear hX9 h1c
      go_wp2_with (first | (with_reducible refine store_st (.tmp 9) (.tmp 87) _ _ #[.int .i64 tp, .int .u64 y0, .int .u64 y1, .int .u64 y2, .int .u64 y3, .int .u64 y4, .int .u64 y5, .int .u64 y6, .int .u64 y7, .slice mA' tml mcap', .slice oA' tol ocap'] HX9.out rfl rfl rfl rfl rfl rfl H1C.out ?_) | fail)
      go_roundw
      case rel =>
        have hne1 : ∀ q, (Value.slice mA' tml mcap').ownBlock = some q → q ≠ v5.heap.size := fun q hq => by have := (HMO7.out.lt q hq).1; have := HGSZ.out; omega
        have hne2 : ∀ q, (Value.slice oA' tol ocap').ownBlock = some q → q ≠ v5.heap.size := fun q hq => by have := (HOO7.out.lt q hq).1; have := HGSZ.out; omega
        have ho := HOWN8.out
        refine ⟨k + 1, by omega, by omega, by go_num, below_setRowM (below_drewN HB8.out nq) (Nat.le_refl _) _, ?_⟩
        rw [Nat.add_sub_cancel, HNK.out]
        refine ⟨mA', mcap', oA', ocap', ?_, ?_, ?_, ?_, ?_⟩
        · simp only [stC, HLN.out.2.1, HLN.out.2.2, HYS.out.1, HYS.out.2.1, HYS.out.2.2.1, HYS.out.2.2.2.1, HYS.out.2.2.2.2.1, HYS.out.2.2.2.2.2.1, HYS.out.2.2.2.2.2.2.1, HYS.out.2.2.2.2.2.2.2]
          exact setRow_heap _ _ _ _ _ _ HX9.out
        · simp only [HLN.out.2.1]
          exact Joins.ownsRow_le (ownsRow.blk ho.1 fun q hq => setRow_other _ _ _ _ (hne1 q hq)) (Nat.zero_le _)
        · simp only [HLN.out.2.2]
          exact Joins.ownsRow_le (ownsRow.blk ho.2 fun q hq => setRow_other _ _ _ _ (hne2 q hq)) (Nat.zero_le _)
        · simp only [HLN.out.2.1]
          exact fun e => hne1 _ e rfl
        · simp only [HLN.out.2.2]
          exact fun e => hne2 _ e rfl
      case measure => simp [intOf]; omega
    · have hkn : ¬ (k : Int) < n1 := by omega
      have hjm : j = m := by have := HNM.out; have := HJ.out; have := HKK.out; omega
      obtain ⟨hrg, hmm, hend⟩ := HLAST.out hjm
      have e0 : r0 = z0 := by rw [← HG.out.1, hrg]; exact HZS.out.1
      have e1 : r1 = z1 := by rw [← HG.out.2.1, hrg]; exact HZS.out.2.1
      have e2 : r2 = z2 := by rw [← HG.out.2.2.1, hrg]; exact HZS.out.2.2.1
      have e3 : r3 = z3 := by rw [← HG.out.2.2.2.1, hrg]; exact HZS.out.2.2.2.1
      have e4 : r4 = z4 := by rw [← HG.out.2.2.2.2.1, hrg]; exact HZS.out.2.2.2.2.1
      have e5 : r5 = z5 := by rw [← HG.out.2.2.2.2.2.1, hrg]; exact HZS.out.2.2.2.2.2.1
      have e6 : r6 = z6 := by rw [← HG.out.2.2.2.2.2.2.1, hrg]; exact HZS.out.2.2.2.2.2.2.1
      have e7 : r7 = z7 := by rw [← HG.out.2.2.2.2.2.2.2, hrg]; exact HZS.out.2.2.2.2.2.2.2
      have el : l1 = sml := by rw [← HL1.out, hmm]; exact HLN.out.1.1
      subst e0 e1 e2 e3 e4 e5 e6 e7 el hmm
      have HEN := Lib.hid hend
      clear hend hrg hjm
      go_wp2_with fail
      refine HCALL.out.mono ?_
      rintro e v7 ⟨mA', mcap', oA', ocap', rfl, ⟨hmo, hib⟩, hoo, hb⟩
      have HB7 := Lib.hid hb
      clear hmo hoo hib hb t0 q0 q1 q2 q3 q4 q5 x0 x1 x2 x3 x4 x5 x6 x7 x8 x9 x10
      have hbwr : Below wr.heap.size wr v7 := HB7.out
      have hb57 : Below v5.heap.size v5 v7 := HBR.out.trans (hbwr.mono HBR.out.size)
      have hrow8 := (hbwr.block _ HGSZ.out).trans HROW.out
      have t0 := cells_below hb57 (row_cell HT5.out 0) (hvl)
      have t1 := cells_below hb57 (row_cell HT5.out 1) (hvl)
      have t2 := cells_below hb57 (row_cell HT5.out 2) (hvl)
      have t3 := cells_below hb57 (row_cell HT5.out 3) (hvl)
      have t4 := cells_below hb57 (row_cell HT5.out 4) (hvl)
      have t5 := cells_below hb57 (row_cell HT5.out 5) (hvl)
      have t6 := cells_below hb57 (row_cell HT5.out 6) (hvl)
      have t7 := cells_below hb57 (row_cell HT5.out 7) (hvl)
      have t8 := cells_below hb57 (row_cell HT5.out 8) (hvl)
      have t9 := cells_below hb57 (row_cell HT5.out 9) (hvl)
      have t10 := cells_below hb57 (row_cell HT5.out 10) (hvl)
      simp at t0 t1 t2 t3 t4 t5 t6 t7 t8 t9 t10
      have q0 := cells_below hb57 (row_cell HX5.out 0) (hwl)
      have q1 := cells_below hb57 (row_cell HX5.out 1) (hwl)
      have q2 := cells_below hb57 (row_cell HX5.out 2) (hwl)
      have q3 := cells_below hb57 (row_cell HX5.out 3) (hwl)
      have q4 := cells_below hb57 (row_cell HX5.out 4) (hwl)
      have q5 := cells_below hb57 (row_cell HX5.out 5) (hwl)
      simp at q0 q1 q2 q3 q4 q5
      have x0 := row_cell hrow8 0
      have x1 := row_cell hrow8 1
      have x2 := row_cell hrow8 2
      have x3 := row_cell hrow8 3
      have x4 := row_cell hrow8 4
      have x5 := row_cell hrow8 5
      have x6 := row_cell hrow8 6
      have x7 := row_cell hrow8 7
      have x8 := row_cell hrow8 8
      have x9 := row_cell hrow8 9
      have x10 := row_cell hrow8 10
      simp at x0 x1 x2 x3 x4 x5 x6 x7 x8 x9 x10
      have HB57 := Lib.hid hb57
      have hl5 : v5.heap.size < v7.heap.size := by have := HGSZ.out; have := hbwr.size; omega
      have hl3 : v3.heap.size < v7.heap.size := by omega
      have hlw : w.heap.size < v7.heap.size := by omega
      have hc1 : ∀ o, (convert 22 9 (.slice m1 l1 d1)).run Tryd.prog (v7.alloc o) = .ok (.string (strOfNums mm1)) (v7.alloc o) := fun o => by_str (HY1.out.below (hb57.trans ((Below.box v7 o).mono hb57.size)))
      have hc2 : ∀ o, (convert 22 9 (.slice sA l1 scap)).run Tryd.prog (v7.alloc o) = .ok (.string (strOfNums mm1)) (v7.alloc o) := fun o => by
        have ho := own_below HSM.out (hbwr.trans ((Below.box v7 o).mono hbwr.size))
        exact by_str (BySl.of_own ho HBY1.out.isB)
      have hnr := run_neq_regs r0 r1 r2 r3 r4 r5 r6 r7
      generalize strOfNums mm1 = S at *
      clear hbwr hb57 hrow8
      rcases HEN.out with ⟨hen, hmT⟩ | ⟨hen, hee, h300⟩
      · subst hen
        have HMEQ := Lib.hid hmT
        clear hmT
        go_wp2_with fail
        clear hc1 hc2 hnr hl5 hl3 hlw t0 t1 t2 t3 t4 t5 t6 t7 t8 t9 t10 x0 x1 x2 x3 x4 x5 x6 x7 x8 x9 x10 q0 q1 q2 q3 q4 q5
        have hb9 : Below v5.heap.size v5 (v7.alloc (.cells #[.int .i64 tp, .int .u64 y0, .int .u64 y1, .int .u64 y2, .int .u64 y3, .int .u64 y4, .int .u64 y5, .int .u64 y6, .int .u64 y7, .slice mA' tml mcap', .slice oA' tol ocap'] 43)) := HB57.out.trans ((Below.box _ _).mono HB57.out.size)
        generalize v7.alloc (.cells #[.int .i64 tp, .int .u64 y0, .int .u64 y1, .int .u64 y2, .int .u64 y3, .int .u64 y4, .int .u64 y5, .int .u64 y6, .int .u64 y7, .slice mA' tml mcap', .slice oA' tol ocap'] 43) = w9 at *
        have hBw9 := HB5.out.trans (hb9.mono (show w.heap.size ≤ v5.heap.size by have := HZ6.out; omega))
        have HB9 := Lib.hid hb9
        clear hb9
        obtain ⟨a2, ha2⟩ : ∃ a, Mc.answer P xs 300 = a := ⟨_, rfl⟩
        obtain ⟨A2, en2, rg2, mm2, er2⟩ := a2
        obtain ⟨f0, hf0⟩ : ∃ z, rg2.getD 0 0 = z := ⟨_, rfl⟩
        obtain ⟨f1, hf1⟩ : ∃ z, rg2.getD 1 0 = z := ⟨_, rfl⟩
        obtain ⟨f2, hf2⟩ : ∃ z, rg2.getD 2 0 = z := ⟨_, rfl⟩
        obtain ⟨f3, hf3⟩ : ∃ z, rg2.getD 3 0 = z := ⟨_, rfl⟩
        obtain ⟨f4, hf4⟩ : ∃ z, rg2.getD 4 0 = z := ⟨_, rfl⟩
        obtain ⟨f5, hf5⟩ : ∃ z, rg2.getD 5 0 = z := ⟨_, rfl⟩
        obtain ⟨f6, hf6⟩ : ∃ z, rg2.getD 6 0 = z := ⟨_, rfl⟩
        obtain ⟨f7, hf7⟩ : ∃ z, rg2.getD 7 0 = z := ⟨_, rfl⟩
        obtain ⟨n2, hn2⟩ : ∃ n, A2.length = n := ⟨_, rfl⟩
        obtain ⟨l2, hl2⟩ : ∃ n, mm2.length = n := ⟨_, rfl⟩
        have hrr2 : ∀ W, Below w.heap.size w W → Calls Tryd.prog 12 #[.agg #[.int .i64 mem, .int .i64 stk, .int .i64 inp, .slice Ad ld cd, .slice Af lf cf, .slice Ac lc cc], .slice Ai li ci, .int .i64 300] W fun e w' => ∃ p2 c2 m2 d2, e = .returned (.tuple #[.agg #[.slice p2 n2 c2, .int .i64 en2, .int .u64 f0, .int .u64 f1, .int .u64 f2, .int .u64 f3, .int .u64 f4, .int .u64 f5, .int .u64 f6, .int .u64 f7, .slice m2 l2 d2], .int .i64 er2]) ∧ InSl w' p2 n2 c2 A2 ∧ BySl w' m2 l2 d2 mm2 ∧ Below W.heap.size W w' := fun W hW => by
          have := HR2.out W 300 hW
          rw [ha2] at this
          refine this.mono fun e w' h => ?_
          simp only [RunA, trC, hf0, hf1, hf2, hf3, hf4, hf5, hf6, hf7, hn2, hl2] at h
          exact h
        obtain ⟨a3, ha3⟩ : ∃ a, Mc.answer P xs (m : Int) = a := ⟨_, rfl⟩
        have hm0 := HM0.out
        have ham := HAM.out.symm
        rw [ha3] at hm0 ham
        obtain ⟨A3, en3, rg3, mm3, er3⟩ := a3
        simp only at hm0 ham
        subst hm0 ham
        obtain ⟨h0, hh0⟩ : ∃ z, rg3.getD 0 0 = z := ⟨_, rfl⟩
        obtain ⟨h1, hh1⟩ : ∃ z, rg3.getD 1 0 = z := ⟨_, rfl⟩
        obtain ⟨h2, hh2⟩ : ∃ z, rg3.getD 2 0 = z := ⟨_, rfl⟩
        obtain ⟨h3, hh3⟩ : ∃ z, rg3.getD 3 0 = z := ⟨_, rfl⟩
        obtain ⟨h4, hh4⟩ : ∃ z, rg3.getD 4 0 = z := ⟨_, rfl⟩
        obtain ⟨h5, hh5⟩ : ∃ z, rg3.getD 5 0 = z := ⟨_, rfl⟩
        obtain ⟨h6, hh6⟩ : ∃ z, rg3.getD 6 0 = z := ⟨_, rfl⟩
        obtain ⟨h7, hh7⟩ : ∃ z, rg3.getD 7 0 = z := ⟨_, rfl⟩
        obtain ⟨l3, hl3⟩ : ∃ n, mm3.length = n := ⟨_, rfl⟩
        have hrr3 : ∀ W, Below w.heap.size w W → Calls Tryd.prog 12 #[.agg #[.int .i64 mem, .int .i64 stk, .int .i64 inp, .slice Ad ld cd, .slice Af lf cf, .slice Ac lc cc], .slice Ai li ci, .int .i64 ((n1 : Int) - 1)] W fun e w' => ∃ p3 c3 m3 d3, e = .returned (.tuple #[.agg #[.slice p3 n1 c3, .int .i64 0, .int .u64 h0, .int .u64 h1, .int .u64 h2, .int .u64 h3, .int .u64 h4, .int .u64 h5, .int .u64 h6, .int .u64 h7, .slice m3 l3 d3], .int .i64 er3]) ∧ InSl w' p3 n1 c3 A1 ∧ BySl w' m3 l3 d3 mm3 ∧ Below W.heap.size W w' := fun W hW => by
          have := HR2.out W m hW
          rw [ha3] at this
          rw [show ((n1 : Int) - 1) = m by have := HNM.out; omega]
          refine this.mono fun e w' h => ?_
          simp only [RunA, trC, hh0, hh1, hh2, hh3, hh4, hh5, hh6, hh7, hl3, HN1.out] at h
          exact h
        have HRR2 := Lib.hid hrr2
        have HRR3 := Lib.hid hrr3
        have wn1 : IntKind.i64.wrap ((n1 : Int) - 1) = n1 - 1 := by rw [IntKind.wrap_i64]; omega
        clear hrr2 hrr3 ha2 ha3 hn2 hl2 hl3 hf0 hf1 hf2 hf3 hf4 hf5 hf6 hf7 hh0 hh1 hh2 hh3 hh4 hh5 hh6 hh7
        refine (HRR2.out _ hBw9).mono ?_
        rintro e v10 ⟨p2, c2, m2, d2, rfl, hin2, hby2, hb⟩
        have hb10 : Below v5.heap.size v5 v10 := HB9.out.trans (hb.mono HB9.out.size)
        have HB10 := Lib.hid hb10
        have HIN2 := Lib.hid hin2
        have HBY2 := Lib.hid hby2
        clear hb hin2 hby2 hBw9
        have q0 := cells_below hb10 (row_cell HX5.out 0) (hwl)
        have q1 := cells_below hb10 (row_cell HX5.out 1) (hwl)
        have q2 := cells_below hb10 (row_cell HX5.out 2) (hwl)
        have q3 := cells_below hb10 (row_cell HX5.out 3) (hwl)
        have q4 := cells_below hb10 (row_cell HX5.out 4) (hwl)
        have q5 := cells_below hb10 (row_cell HX5.out 5) (hwl)
        simp at q0 q1 q2 q3 q4 q5
        have t0 := cells_below hb10 (row_cell HT5.out 0) hvl
        simp at t0
        have hlw : w.heap.size < v10.heap.size := by have := hb10.size; omega
        have hl3' : v3.heap.size < v10.heap.size := by have := hb10.size; omega
        clear hb10
        go_wp2_with fail
        have hB11 := Below.box v10 (.cells #[.slice p2 n2 c2, .int .i64 en2, .int .u64 f0, .int .u64 f1, .int .u64 f2, .int .u64 f3, .int .u64 f4, .int .u64 f5, .int .u64 f6, .int .u64 f7, .slice m2 l2 d2] 32)
        have hX11 : (v10.alloc (.cells #[.slice p2 n2 c2, .int .i64 en2, .int .u64 f0, .int .u64 f1, .int .u64 f2, .int .u64 f3, .int .u64 f4, .int .u64 f5, .int .u64 f6, .int .u64 f7, .slice m2 l2 d2] 32)).heap[v10.heap.size]? = some (.cells #[.slice p2 n2 c2, .int .i64 en2, .int .u64 f0, .int .u64 f1, .int .u64 f2, .int .u64 f3, .int .u64 f4, .int .u64 f5, .int .u64 f6, .int .u64 f7, .slice m2 l2 d2] 32 (0, 0)) := heap_newM rfl
        have hz11 : (v10.alloc (.cells #[.slice p2 n2 c2, .int .i64 en2, .int .u64 f0, .int .u64 f1, .int .u64 f2, .int .u64 f3, .int .u64 f4, .int .u64 f5, .int .u64 f6, .int .u64 f7, .slice m2 l2 d2] 32)).heap.size = v10.heap.size + 1 := by simp
        generalize v10.alloc (.cells #[.slice p2 n2 c2, .int .i64 en2, .int .u64 f0, .int .u64 f1, .int .u64 f2, .int .u64 f3, .int .u64 f4, .int .u64 f5, .int .u64 f6, .int .u64 f7, .slice m2 l2 d2] 32) = w11 at *
        have hb11 : Below v5.heap.size v5 w11 := HB10.out.trans (hB11.mono HB10.out.size)
        refine (HRR3.out _ (HB5.out.trans (hb11.mono (by have := HZ6.out; omega)))).mono ?_
        rintro e v12 ⟨p3, c3, m3, d3, rfl, hin3, hby3, hb⟩
        have hb12 : Below v5.heap.size v5 v12 := hb11.trans (hb.mono hb11.size)
        have hT2 := (hb.block _ (by omega)).trans hX11
        have HI2 := Lib.hid (HIN2.out.below (hB11.trans (hb.mono hB11.size)))
        have HY2 := Lib.hid (HBY2.out.below (hB11.trans (hb.mono hB11.size)))
        have HIN3 := Lib.hid hin3
        have HB12 := Lib.hid hb12
        have HT2 := Lib.hid hT2
        have hv12 : v10.heap.size < v12.heap.size := by have := hb.size; omega
        clear hb hb11 hB11 hX11 hz11 hin3 hby3 hlw hl3' t0 q0 q1 q2 q3 q4 q5
        have hl3' : v3.heap.size < v12.heap.size := by have := hb12.size; omega
        have t0 := cells_below hb12 (row_cell HT5.out 0) (hvl)
        have t1 := cells_below hb12 (row_cell HT5.out 1) (hvl)
        have t2 := cells_below hb12 (row_cell HT5.out 2) (hvl)
        have t3 := cells_below hb12 (row_cell HT5.out 3) (hvl)
        have t4 := cells_below hb12 (row_cell HT5.out 4) (hvl)
        have t5 := cells_below hb12 (row_cell HT5.out 5) (hvl)
        have t6 := cells_below hb12 (row_cell HT5.out 6) (hvl)
        have t7 := cells_below hb12 (row_cell HT5.out 7) (hvl)
        have t8 := cells_below hb12 (row_cell HT5.out 8) (hvl)
        have t9 := cells_below hb12 (row_cell HT5.out 9) (hvl)
        have t10 := cells_below hb12 (row_cell HT5.out 10) (hvl)
        simp at t0 t1 t2 t3 t4 t5 t6 t7 t8 t9 t10
        have f_0 := row_cell hT2 0
        have f_1 := row_cell hT2 1
        have f_2 := row_cell hT2 2
        have f_3 := row_cell hT2 3
        have f_4 := row_cell hT2 4
        have f_5 := row_cell hT2 5
        have f_6 := row_cell hT2 6
        have f_7 := row_cell hT2 7
        have f_8 := row_cell hT2 8
        have f_9 := row_cell hT2 9
        have f_10 := row_cell hT2 10
        simp at f_0 f_1 f_2 f_3 f_4 f_5 f_6 f_7 f_8 f_9 f_10
        clear hb12 hT2
        go_wp2_with fail
        have hB13 := Below.box v12 (.cells #[.slice p3 n1 c3, .int .i64 0, .int .u64 h0, .int .u64 h1, .int .u64 h2, .int .u64 h3, .int .u64 h4, .int .u64 h5, .int .u64 h6, .int .u64 h7, .slice m3 l3 d3] 32)
        have hX13 : (v12.alloc (.cells #[.slice p3 n1 c3, .int .i64 0, .int .u64 h0, .int .u64 h1, .int .u64 h2, .int .u64 h3, .int .u64 h4, .int .u64 h5, .int .u64 h6, .int .u64 h7, .slice m3 l3 d3] 32)).heap[v12.heap.size]? = some (.cells #[.slice p3 n1 c3, .int .i64 0, .int .u64 h0, .int .u64 h1, .int .u64 h2, .int .u64 h3, .int .u64 h4, .int .u64 h5, .int .u64 h6, .int .u64 h7, .slice m3 l3 d3] 32 (0, 0)) := heap_newM rfl
        have hz13 : (v12.alloc (.cells #[.slice p3 n1 c3, .int .i64 0, .int .u64 h0, .int .u64 h1, .int .u64 h2, .int .u64 h3, .int .u64 h4, .int .u64 h5, .int .u64 h6, .int .u64 h7, .slice m3 l3 d3] 32)).heap.size = v12.heap.size + 1 := by simp
        generalize v12.alloc (.cells #[.slice p3 n1 c3, .int .i64 0, .int .u64 h0, .int .u64 h1, .int .u64 h2, .int .u64 h3, .int .u64 h4, .int .u64 h5, .int .u64 h6, .int .u64 h7, .slice m3 l3 d3] 32) = w13 at *
        have HB13 := Lib.hid (HB12.out.trans (hB13.mono HB12.out.size))
        have HT1' := Lib.hid ((HB13.out.block _ hvl).trans HT5.out)
        have HT3' := Lib.hid hX13
        have HZ13 := Lib.hid (show v3.heap.size < w13.heap.size ∧ v12.heap.size < w13.heap.size from ⟨by have := HB13.out.size; omega, by omega⟩)
        have HJ1 := Lib.hid (HI1.out.below HB13.out)
        have HK1 := Lib.hid (HY1.out.below HB13.out)
        have HJ2 := Lib.hid (HI2.out.below hB13)
        have HK2 := Lib.hid (HY2.out.below hB13)
        have HJ3 := Lib.hid (HIN3.out.below hB13)
        clear hB13 hX13 hz13 hl3' hv12 t0 t1 t2 t3 t4 t5 t6 t7 t8 t9 t10 f_0 f_1 f_2 f_3 f_4 f_5 f_6 f_7 f_8 f_9 f_10
        have hb14 : Below w13.heap.size w13 w13 := Below.refl _ _
        have HB14 := Lib.hid hb14
        clear hb14
        refine (ints_any _ _ _ _ _ _ A1 A1 _ (HJ3.out.below HB14.out) (HJ1.out.below HB14.out)).mono ?_
        rintro e v15 ⟨rfl, hb⟩
        rw [decide_eq_true (rfl : A1 = A1)]
        have hbs15 : Below w13.heap.size w13 v15 := HB14.out.trans (hb.mono HB14.out.size)
        have t0 := cells_below hbs15 (row_cell HT1'.out 0) HZ13.out.1
        have t1 := cells_below hbs15 (row_cell HT1'.out 1) HZ13.out.1
        simp at t0 t1
        have hmx := HMX.out
        have hle : ¬ T < (n1 : Int) - 1 := by have := HMT.out; have := HNM.out; have := HTT.out; omega
        have HBF := Lib.hid (HB5.out.trans ((HB13.out.trans (hbs15.mono HB13.out.size)).mono (show w.heap.size ≤ v5.heap.size by have := HZ6.out; omega)))
        clear hbs15 hb
        have heq : ((n1 : Int) - 1 == T) = true := by have := HMEQ.out; have := HNM.out; simp; omega
        go_wp2
        go_ret
        exact ⟨rfl, HBF.out⟩
      · subst hee
        have htp : tp = sp := (Mc.St.mk.inj (HSS.out hen)).1
        subst htp
        have hbe : (en1 != 0) = true := by simpa using hen
        have H300 := Lib.hid h300
        clear hen h300
        go_wp2_with fail
        clear hc1 hc2 hnr hl5 hl3 hlw t0 t1 t2 t3 t4 t5 t6 t7 t8 t9 t10 x0 x1 x2 x3 x4 x5 x6 x7 x8 x9 x10 q0 q1 q2 q3 q4 q5
        have hb9 : Below v5.heap.size v5 (v7.alloc (.cells #[.int .i64 tp, .int .u64 y0, .int .u64 y1, .int .u64 y2, .int .u64 y3, .int .u64 y4, .int .u64 y5, .int .u64 y6, .int .u64 y7, .slice mA' tml mcap', .slice oA' tol ocap'] 43)) := HB57.out.trans ((Below.box _ _).mono HB57.out.size)
        generalize v7.alloc (.cells #[.int .i64 tp, .int .u64 y0, .int .u64 y1, .int .u64 y2, .int .u64 y3, .int .u64 y4, .int .u64 y5, .int .u64 y6, .int .u64 y7, .slice mA' tml mcap', .slice oA' tol ocap'] 43) = w9 at *
        have hBw9 := HB5.out.trans (hb9.mono (show w.heap.size ≤ v5.heap.size by have := HZ6.out; omega))
        have HB9 := Lib.hid hb9
        clear hb9
        obtain ⟨a2, ha2⟩ : ∃ a, Mc.answer P xs 300 = a := ⟨_, rfl⟩
        have htb : trB (A1, en1, rg1, mm1) (a2.1, a2.2.1, a2.2.2.1, a2.2.2.2.1) = true := by
          rw [H300.out] at ha2
          subst ha2
          exact trB_self _
        obtain ⟨A2, en2, rg2, mm2, er2⟩ := a2
        simp only at htb
        obtain ⟨f0, hf0⟩ : ∃ z, rg2.getD 0 0 = z := ⟨_, rfl⟩
        obtain ⟨f1, hf1⟩ : ∃ z, rg2.getD 1 0 = z := ⟨_, rfl⟩
        obtain ⟨f2, hf2⟩ : ∃ z, rg2.getD 2 0 = z := ⟨_, rfl⟩
        obtain ⟨f3, hf3⟩ : ∃ z, rg2.getD 3 0 = z := ⟨_, rfl⟩
        obtain ⟨f4, hf4⟩ : ∃ z, rg2.getD 4 0 = z := ⟨_, rfl⟩
        obtain ⟨f5, hf5⟩ : ∃ z, rg2.getD 5 0 = z := ⟨_, rfl⟩
        obtain ⟨f6, hf6⟩ : ∃ z, rg2.getD 6 0 = z := ⟨_, rfl⟩
        obtain ⟨f7, hf7⟩ : ∃ z, rg2.getD 7 0 = z := ⟨_, rfl⟩
        obtain ⟨n2, hn2⟩ : ∃ n, A2.length = n := ⟨_, rfl⟩
        obtain ⟨l2, hl2⟩ : ∃ n, mm2.length = n := ⟨_, rfl⟩
        have hrr2 : ∀ W, Below w.heap.size w W → Calls Tryd.prog 12 #[.agg #[.int .i64 mem, .int .i64 stk, .int .i64 inp, .slice Ad ld cd, .slice Af lf cf, .slice Ac lc cc], .slice Ai li ci, .int .i64 300] W fun e w' => ∃ p2 c2 m2 d2, e = .returned (.tuple #[.agg #[.slice p2 n2 c2, .int .i64 en2, .int .u64 f0, .int .u64 f1, .int .u64 f2, .int .u64 f3, .int .u64 f4, .int .u64 f5, .int .u64 f6, .int .u64 f7, .slice m2 l2 d2], .int .i64 er2]) ∧ InSl w' p2 n2 c2 A2 ∧ BySl w' m2 l2 d2 mm2 ∧ Below W.heap.size W w' := fun W hW => by
          have := HR2.out W 300 hW
          rw [ha2] at this
          refine this.mono fun e w' h => ?_
          simp only [RunA, trC, hf0, hf1, hf2, hf3, hf4, hf5, hf6, hf7, hn2, hl2] at h
          exact h
        have hst2 : ∀ (p2 : Option Addr) (c2 : Nat) (m2 : Option Addr) (d2 : Nat) (W : World), InSl W (some ⟨bp, op, none⟩) n1 c1 A1 → InSl W p2 n2 c2 A2 → BySl W m1 l1 d1 mm1 → BySl W m2 l2 d2 mm2 → Calls Tryd.prog 16 #[.agg #[.slice (some ⟨bp, op, none⟩) n1 c1, .int .i64 en1, .int .u64 r0, .int .u64 r1, .int .u64 r2, .int .u64 r3, .int .u64 r4, .int .u64 r5, .int .u64 r6, .int .u64 r7, .slice m1 l1 d1], .agg #[.slice p2 n2 c2, .int .i64 en2, .int .u64 f0, .int .u64 f1, .int .u64 f2, .int .u64 f3, .int .u64 f4, .int .u64 f5, .int .u64 f6, .int .u64 f7, .slice m2 l2 d2]] W fun e w' => e = .returned (.bool true) ∧ Below W.heap.size W w' := fun p2 c2 m2 d2 W h1 h2 h3 h4 => by
          have := sameTrace_any (some ⟨bp, op, none⟩) n1 c1 en1 m1 l1 d1 (A1, en1, rg1, mm1) p2 n2 c2 en2 m2 l2 d2 (A2, en2, rg2, mm2) W h1 h2 h3 h4 rfl rfl
          rw [htb] at this
          simp only [trC, hf0, hf1, hf2, hf3, hf4, hf5, hf6, hf7, HG.out.1, HG.out.2.1, HG.out.2.2.1, HG.out.2.2.2.1, HG.out.2.2.2.2.1, HG.out.2.2.2.2.2.1, HG.out.2.2.2.2.2.2.1, HG.out.2.2.2.2.2.2.2] at this
          exact this
        have HST2 := Lib.hid hst2
        clear hst2 htb
        obtain ⟨a3, ha3⟩ : ∃ a, Mc.answer P xs (m : Int) = a := ⟨_, rfl⟩
        have hm0 := HM0.out
        have ham := HAM.out.symm
        rw [ha3] at hm0 ham
        obtain ⟨A3, en3, rg3, mm3, er3⟩ := a3
        simp only at hm0 ham
        subst hm0 ham
        obtain ⟨h0, hh0⟩ : ∃ z, rg3.getD 0 0 = z := ⟨_, rfl⟩
        obtain ⟨h1, hh1⟩ : ∃ z, rg3.getD 1 0 = z := ⟨_, rfl⟩
        obtain ⟨h2, hh2⟩ : ∃ z, rg3.getD 2 0 = z := ⟨_, rfl⟩
        obtain ⟨h3, hh3⟩ : ∃ z, rg3.getD 3 0 = z := ⟨_, rfl⟩
        obtain ⟨h4, hh4⟩ : ∃ z, rg3.getD 4 0 = z := ⟨_, rfl⟩
        obtain ⟨h5, hh5⟩ : ∃ z, rg3.getD 5 0 = z := ⟨_, rfl⟩
        obtain ⟨h6, hh6⟩ : ∃ z, rg3.getD 6 0 = z := ⟨_, rfl⟩
        obtain ⟨h7, hh7⟩ : ∃ z, rg3.getD 7 0 = z := ⟨_, rfl⟩
        obtain ⟨l3, hl3⟩ : ∃ n, mm3.length = n := ⟨_, rfl⟩
        have hrr3 : ∀ W, Below w.heap.size w W → Calls Tryd.prog 12 #[.agg #[.int .i64 mem, .int .i64 stk, .int .i64 inp, .slice Ad ld cd, .slice Af lf cf, .slice Ac lc cc], .slice Ai li ci, .int .i64 ((n1 : Int) - 1)] W fun e w' => ∃ p3 c3 m3 d3, e = .returned (.tuple #[.agg #[.slice p3 n1 c3, .int .i64 0, .int .u64 h0, .int .u64 h1, .int .u64 h2, .int .u64 h3, .int .u64 h4, .int .u64 h5, .int .u64 h6, .int .u64 h7, .slice m3 l3 d3], .int .i64 er3]) ∧ InSl w' p3 n1 c3 A1 ∧ BySl w' m3 l3 d3 mm3 ∧ Below W.heap.size W w' := fun W hW => by
          have := HR2.out W m hW
          rw [ha3] at this
          rw [show ((n1 : Int) - 1) = m by have := HNM.out; omega]
          refine this.mono fun e w' h => ?_
          simp only [RunA, trC, hh0, hh1, hh2, hh3, hh4, hh5, hh6, hh7, hl3, HN1.out] at h
          exact h
        have HRR2 := Lib.hid hrr2
        have HRR3 := Lib.hid hrr3
        have wn1 : IntKind.i64.wrap ((n1 : Int) - 1) = n1 - 1 := by rw [IntKind.wrap_i64]; omega
        clear hrr2 hrr3 ha2 ha3 hn2 hl2 hl3 hf0 hf1 hf2 hf3 hf4 hf5 hf6 hf7 hh0 hh1 hh2 hh3 hh4 hh5 hh6 hh7
        refine (HRR2.out _ hBw9).mono ?_
        rintro e v10 ⟨p2, c2, m2, d2, rfl, hin2, hby2, hb⟩
        have hb10 : Below v5.heap.size v5 v10 := HB9.out.trans (hb.mono HB9.out.size)
        have HB10 := Lib.hid hb10
        have HIN2 := Lib.hid hin2
        have HBY2 := Lib.hid hby2
        clear hb hin2 hby2 hBw9
        have q0 := cells_below hb10 (row_cell HX5.out 0) (hwl)
        have q1 := cells_below hb10 (row_cell HX5.out 1) (hwl)
        have q2 := cells_below hb10 (row_cell HX5.out 2) (hwl)
        have q3 := cells_below hb10 (row_cell HX5.out 3) (hwl)
        have q4 := cells_below hb10 (row_cell HX5.out 4) (hwl)
        have q5 := cells_below hb10 (row_cell HX5.out 5) (hwl)
        simp at q0 q1 q2 q3 q4 q5
        have t0 := cells_below hb10 (row_cell HT5.out 0) hvl
        simp at t0
        have hlw : w.heap.size < v10.heap.size := by have := hb10.size; omega
        have hl3' : v3.heap.size < v10.heap.size := by have := hb10.size; omega
        clear hb10
        go_wp2_with fail
        have hB11 := Below.box v10 (.cells #[.slice p2 n2 c2, .int .i64 en2, .int .u64 f0, .int .u64 f1, .int .u64 f2, .int .u64 f3, .int .u64 f4, .int .u64 f5, .int .u64 f6, .int .u64 f7, .slice m2 l2 d2] 32)
        have hX11 : (v10.alloc (.cells #[.slice p2 n2 c2, .int .i64 en2, .int .u64 f0, .int .u64 f1, .int .u64 f2, .int .u64 f3, .int .u64 f4, .int .u64 f5, .int .u64 f6, .int .u64 f7, .slice m2 l2 d2] 32)).heap[v10.heap.size]? = some (.cells #[.slice p2 n2 c2, .int .i64 en2, .int .u64 f0, .int .u64 f1, .int .u64 f2, .int .u64 f3, .int .u64 f4, .int .u64 f5, .int .u64 f6, .int .u64 f7, .slice m2 l2 d2] 32 (0, 0)) := heap_newM rfl
        have hz11 : (v10.alloc (.cells #[.slice p2 n2 c2, .int .i64 en2, .int .u64 f0, .int .u64 f1, .int .u64 f2, .int .u64 f3, .int .u64 f4, .int .u64 f5, .int .u64 f6, .int .u64 f7, .slice m2 l2 d2] 32)).heap.size = v10.heap.size + 1 := by simp
        generalize v10.alloc (.cells #[.slice p2 n2 c2, .int .i64 en2, .int .u64 f0, .int .u64 f1, .int .u64 f2, .int .u64 f3, .int .u64 f4, .int .u64 f5, .int .u64 f6, .int .u64 f7, .slice m2 l2 d2] 32) = w11 at *
        have hb11 : Below v5.heap.size v5 w11 := HB10.out.trans (hB11.mono HB10.out.size)
        refine (HRR3.out _ (HB5.out.trans (hb11.mono (by have := HZ6.out; omega)))).mono ?_
        rintro e v12 ⟨p3, c3, m3, d3, rfl, hin3, hby3, hb⟩
        have hb12 : Below v5.heap.size v5 v12 := hb11.trans (hb.mono hb11.size)
        have hT2 := (hb.block _ (by omega)).trans hX11
        have HI2 := Lib.hid (HIN2.out.below (hB11.trans (hb.mono hB11.size)))
        have HY2 := Lib.hid (HBY2.out.below (hB11.trans (hb.mono hB11.size)))
        have HIN3 := Lib.hid hin3
        have HB12 := Lib.hid hb12
        have HT2 := Lib.hid hT2
        have hv12 : v10.heap.size < v12.heap.size := by have := hb.size; omega
        clear hb hb11 hB11 hX11 hz11 hin3 hby3 hlw hl3' t0 q0 q1 q2 q3 q4 q5
        have hl3' : v3.heap.size < v12.heap.size := by have := hb12.size; omega
        have t0 := cells_below hb12 (row_cell HT5.out 0) (hvl)
        have t1 := cells_below hb12 (row_cell HT5.out 1) (hvl)
        have t2 := cells_below hb12 (row_cell HT5.out 2) (hvl)
        have t3 := cells_below hb12 (row_cell HT5.out 3) (hvl)
        have t4 := cells_below hb12 (row_cell HT5.out 4) (hvl)
        have t5 := cells_below hb12 (row_cell HT5.out 5) (hvl)
        have t6 := cells_below hb12 (row_cell HT5.out 6) (hvl)
        have t7 := cells_below hb12 (row_cell HT5.out 7) (hvl)
        have t8 := cells_below hb12 (row_cell HT5.out 8) (hvl)
        have t9 := cells_below hb12 (row_cell HT5.out 9) (hvl)
        have t10 := cells_below hb12 (row_cell HT5.out 10) (hvl)
        simp at t0 t1 t2 t3 t4 t5 t6 t7 t8 t9 t10
        have f_0 := row_cell hT2 0
        have f_1 := row_cell hT2 1
        have f_2 := row_cell hT2 2
        have f_3 := row_cell hT2 3
        have f_4 := row_cell hT2 4
        have f_5 := row_cell hT2 5
        have f_6 := row_cell hT2 6
        have f_7 := row_cell hT2 7
        have f_8 := row_cell hT2 8
        have f_9 := row_cell hT2 9
        have f_10 := row_cell hT2 10
        simp at f_0 f_1 f_2 f_3 f_4 f_5 f_6 f_7 f_8 f_9 f_10
        clear hb12 hT2
        go_wp2_with fail
        have hB13 := Below.box v12 (.cells #[.slice p3 n1 c3, .int .i64 0, .int .u64 h0, .int .u64 h1, .int .u64 h2, .int .u64 h3, .int .u64 h4, .int .u64 h5, .int .u64 h6, .int .u64 h7, .slice m3 l3 d3] 32)
        have hX13 : (v12.alloc (.cells #[.slice p3 n1 c3, .int .i64 0, .int .u64 h0, .int .u64 h1, .int .u64 h2, .int .u64 h3, .int .u64 h4, .int .u64 h5, .int .u64 h6, .int .u64 h7, .slice m3 l3 d3] 32)).heap[v12.heap.size]? = some (.cells #[.slice p3 n1 c3, .int .i64 0, .int .u64 h0, .int .u64 h1, .int .u64 h2, .int .u64 h3, .int .u64 h4, .int .u64 h5, .int .u64 h6, .int .u64 h7, .slice m3 l3 d3] 32 (0, 0)) := heap_newM rfl
        have hz13 : (v12.alloc (.cells #[.slice p3 n1 c3, .int .i64 0, .int .u64 h0, .int .u64 h1, .int .u64 h2, .int .u64 h3, .int .u64 h4, .int .u64 h5, .int .u64 h6, .int .u64 h7, .slice m3 l3 d3] 32)).heap.size = v12.heap.size + 1 := by simp
        generalize v12.alloc (.cells #[.slice p3 n1 c3, .int .i64 0, .int .u64 h0, .int .u64 h1, .int .u64 h2, .int .u64 h3, .int .u64 h4, .int .u64 h5, .int .u64 h6, .int .u64 h7, .slice m3 l3 d3] 32) = w13 at *
        have HB13 := Lib.hid (HB12.out.trans (hB13.mono HB12.out.size))
        have HT1' := Lib.hid ((HB13.out.block _ hvl).trans HT5.out)
        have HT3' := Lib.hid hX13
        have HZ13 := Lib.hid (show v3.heap.size < w13.heap.size ∧ v12.heap.size < w13.heap.size from ⟨by have := HB13.out.size; omega, by omega⟩)
        have HJ1 := Lib.hid (HI1.out.below HB13.out)
        have HK1 := Lib.hid (HY1.out.below HB13.out)
        have HJ2 := Lib.hid (HI2.out.below hB13)
        have HK2 := Lib.hid (HY2.out.below hB13)
        have HJ3 := Lib.hid (HIN3.out.below hB13)
        clear hB13 hX13 hz13 hl3' hv12 t0 t1 t2 t3 t4 t5 t6 t7 t8 t9 t10 f_0 f_1 f_2 f_3 f_4 f_5 f_6 f_7 f_8 f_9 f_10
        refine (HST2.out _ _ _ _ _ HJ1.out HJ2.out HK1.out HK2.out).mono ?_
        rintro e v14 ⟨rfl, hb⟩
        have hb14 : Below w13.heap.size w13 v14 := hb
        have t0 := cells_below hb14 (row_cell HT1'.out 0) HZ13.out.1
        have f_0 := cells_below hb14 (row_cell HT3'.out 0) HZ13.out.2
        have f_1 := cells_below hb14 (row_cell HT3'.out 1) HZ13.out.2
        simp at t0 f_0 f_1
        have HB14 := Lib.hid hb14
        clear hb hb14
        go_wp2_with fail
        clear t0 f_0 f_1
        refine (ints_any _ _ _ _ _ _ A1 A1 _ (HJ3.out.below HB14.out) (HJ1.out.below HB14.out)).mono ?_
        rintro e v15 ⟨rfl, hb⟩
        rw [decide_eq_true (rfl : A1 = A1)]
        have hbs15 : Below w13.heap.size w13 v15 := HB14.out.trans (hb.mono HB14.out.size)
        have t0 := cells_below hbs15 (row_cell HT1'.out 0) HZ13.out.1
        have t1 := cells_below hbs15 (row_cell HT1'.out 1) HZ13.out.1
        simp at t0 t1
        have hmx := HMX.out
        have hle : ¬ T < (n1 : Int) - 1 := by have := HMT.out; have := HNM.out; have := HTT.out; omega
        have HBF := Lib.hid (HB5.out.trans ((HB13.out.trans (hbs15.mono HB13.out.size)).mono (show w.heap.size ≤ v5.heap.size by have := HZ6.out; omega)))
        clear hbs15 hb
        go_wp2
        go_ret
        exact ⟨rfl, HBF.out⟩
end Go.Proofs.YtfhnigfghfmolaaDoor
