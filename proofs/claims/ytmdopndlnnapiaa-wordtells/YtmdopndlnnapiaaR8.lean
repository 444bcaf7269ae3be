/-
  The contract of the reference's Sign and Mask.
-/
import Derived.Test.YtmdopndlnnapiaaR7
namespace Go.Proofs.Ytmdopndlnnapiaa
open Go.RowKit

theorem zero29 (w : World) : (zeroValue 29).run Try.prog w = .ok (.agg (bw off)) w := (Try.zeroValue29 w).trans (by rw [bw_zero])
/-- A new row, all off. -/
theorem alloc_row {ops : Array Oper} {rest : List Oper} {o : Oper} {a : Act} {w : World} {Q : Exit → Act → World → Prop} (hgd : o.guard = none) (ho : o.op = .alloc 29)
    (h : wpList Try.prog ops Q rest (a.put o.dst (.pointer (some ⟨w.heap.size, 0, none⟩))) (w.alloc (.cells (bw off) 29))) : wpList Try.prog ops Q (o :: rest) a w :=
  wpList_plain hgd fun K hK => by
    have := hK _ _ h
    unfold Oper.wp execOp
    simp [ho, Instr.alloc, zero29, newVar, newRow, Value.cells, go_sem]
    exact this

theorem alloc_row_at {ops : Array Oper} {rest : List Oper} {o : Oper} {a : Act} {w : World} {Q : Exit → Act → World → Prop} (g : Nat) (hg : w.heap.size = g) (hgd : o.guard = none) (ho : o.op = .alloc 29)
    (h : wpList Try.prog ops Q rest (a.put o.dst (.pointer (some ⟨g, 0, none⟩))) (w.alloc (.cells (bw off) 29))) : wpList Try.prog ops Q (o :: rest) a w := by
  subst hg; exact alloc_row hgd ho h

set_option maxHeartbeats 400000 in
theorem rsign_any (a : Int) (x n : Nat) (f : Nat → Bool) (HN : Hid (Wd.wid a = n)) (HF : Hid (Wb.ofB n x = f)) (hx : x < 18446744073709551616) (h1 : 1 ≤ n) (h2 : n ≤ 64) (w : World) :
    Calls Try.prog 19 #[.int .i64 a, .int .u64 x] w fun e w' => e = .returned (.int .i64 (Wb.sg n f n)) ∧ Below w.heap.size w w' := by
  go_enter Try.func19, Try.ntmps19
  go_wp2_with fail
  refine (rwidth_any _ _).mono ?_
  rintro e w' ⟨rfl, rfl⟩
  rw [HN.out]
  go_wp2_with fail
  refine (of_any n x h2 hx _).mono ?_
  rintro e w1 ⟨rfl, hb1⟩
  rw [HF.out]
  have g1 := hb1.size
  have r0 := (Row.new w1 off).row_same f
  have hb : Below w.heap.size w ((w1.alloc (.cells (bw off) 29)).setRow w1.heap.size (bw f)) := below_setRow (hb1.alloc g1 _) g1 _
  go_upto_region 3 with (first
    | (with_reducible refine alloc_row rfl rfl ?_)
    | (with_reducible refine store_row (.tmp 6) (.tmp 13) _ _ f (Row.new w1 off) rfl rfl rfl rfl ?_)
    | fail)
  generalize (w1.alloc (.cells (bw off) 29)).setRow w1.heap.size (bw f) = W at *
  generalize w1.heap.size = G at *
  have cc := r0.cell (j := n - 1) (by omega)
  have hc1 : ((n : Int) - 1).toNat = n - 1 := by omega
  have hc2 : 0 ≤ (n : Int) - 1 := by omega
  have hc3 : (n : Int) - 1 < 64 := by omega
  have S1 := Lib.hid (show f (n - 1) = true → (-1 : Int) = Wb.sg n f 0 from fun h => by simp [Wb.sg, h])
  have S2 := Lib.hid (show f (n - 1) = false → (0 : Int) = Wb.sg n f 0 from fun h => by simp [Wb.sg, h])
  go_wp2
  all_goals
    clear cc
    go_loopw [7, 8] (fun s i V => ∃ m : Nat, m ≤ n ∧ i = .int .i64 ((n : Int) - 1 - m) ∧ s = .int .i64 (Wb.sg n f m) ∧ Row V G f ∧ Below w.heap.size w V) (fun _ i _ => (intOf i + 1).toNat)
    case atStart => exact ⟨0, Nat.zero_le _, congrArg (Value.int .i64) (by omega), by first | exact congrArg (Value.int .i64) (S1.out ‹_›) | exact congrArg (Value.int .i64) (S2.out ‹_›), r0, hb⟩
    case round =>
      clear r0 hb W
      obtain ⟨m, hm, rfl, rfl, r0, hb⟩ := hrel
      by_cases hlt : m < n
      · have hi : ((n : Int) - 1 - m) = ((n - 1 - m : Nat) : Int) := by omega
        rw [hi]
        clear hi
        have c0 := r0.cell (j := n - 1 - m) (by omega)
        obtain ⟨b0, b1⟩ := Wb.sg_in n f m (by omega)
        have T1 := Lib.hid (show f (n - 1 - m) = true → Wb.sg n f m * 2 + 1 = Wb.sg n f (m + 1) from fun h => by simp [Wb.sg, h])
        have T2 := Lib.hid (show f (n - 1 - m) = false → Wb.sg n f m * 2 = Wb.sg n f (m + 1) from fun h => by simp [Wb.sg, h])
        have hk' : n - 1 - m + m + 1 = n := by omega
        generalize n - 1 - m = k at *
        have hk64 : (k : Int) < 64 := by omega
        have HK := Lib.hid hk'
        clear hk'
        go_wp2
        all_goals
          go_roundw
          case rel => exact ⟨m + 1, by omega, congrArg (Value.int .i64) (by have := HK.out; omega), by first | exact congrArg (Value.int .i64) (T1.out ‹_›) | exact congrArg (Value.int .i64) (T2.out ‹_›), r0, hb⟩
          case measure => (simp [intOf]; try omega)
      · obtain rfl : m = n := by omega
        go_wp2
        go_ret
        exact ⟨rfl, hb⟩

theorem build_row {ops : Array Oper} {rest : List Oper} {o : Oper} {a : Act} {w : World} {Q : Exit → Act → World → Prop} (hgd : o.guard = none) (ho : o.op = .build 29 #[])
    (h : wpList Try.prog ops Q rest (a.put o.dst (.agg (bw off))) w) : wpList Try.prog ops Q (o :: rest) a w :=
  wpList_plain hgd fun K hK => by
    have := hK _ _ h
    unfold Oper.wp execOp
    simp [ho, run_build _ 29 #[] (bw off) built29]
    exact this

set_option maxHeartbeats 400000 in
theorem rmask_any (a : Int) (n : Nat) (HN : Hid (Wd.wid a = n)) (h2 : n ≤ 64) (w : World) :
    Calls Try.prog 10 #[.int .i64 a] w fun e w' => e = .returned (.int .u64 (Wb.val (Wb.notB n off) 64 : Nat)) ∧ Below w.heap.size w w' := by
  go_enter Try.func10, Try.ntmps10
  go_wp2_with fail
  refine (rwidth_any _ _).mono ?_
  rintro e w' ⟨rfl, rfl⟩
  rw [HN.out]
  go_wp2_with (first
    | (with_reducible refine build_row rfl rfl ?_)
    | fail)
  refine (not_any n off h2 _).mono ?_
  rintro e w1 ⟨rfl, hb1⟩
  go_wp2_with fail
  refine (num_any _ _).mono ?_
  rintro e w2 ⟨rfl, hb2⟩
  go_wp2
  go_ret
  exact ⟨rfl, hb1.trans (hb2.mono hb1.size)⟩

namespace Wb
def qr (n : Nat) (f g : Nat → Bool) : (Nat → Bool) × (Nat → Bool) := if val g 64 = 0 then (notB n off, f) else dv n f g n
end Wb
theorem rdiv_any (n : Nat) (f g : Nat → Bool) (h1 : 1 ≤ n) (h2 : n ≤ 64) (w : World) :
    Calls Try.prog 28 #[.int .i64 n, .agg (bw f), .agg (bw g)] w fun e w' => e = .returned (.tuple #[.agg (bw (Wb.qr n f g).1), .agg (bw (Wb.qr n f g).2)]) ∧ Below w.heap.size w w' := by
  by_cases h : Wb.val g 64 = 0
  · have e : Wb.qr n f g = (Wb.notB n off, f) := if_pos h
    rw [e]; exact div_nought n f g h2 h w
  · have e : Wb.qr n f g = Wb.dv n f g n := if_neg h
    rw [e]; exact div_pos n f g h1 h2 h w

/-! ### two rows held against each other -/
theorem run_part_bool (f : Nat → Bool) (i : Nat) (h : i < 64) (w : World) : (part 4 (bw f) (i * 1)).run Try.prog w = .ok (.bool (f i)) w := by
  rw [Nat.mul_one]
  have hs : (isAgg 4).run Try.prog w = .ok false w := by unfold isAgg; rw [Sem.run_bind, run_underlying Try.underlying4 w]; rfl
  simp [part, hs, bw_get f i h]
theorem run_eqItems_bits (f g : Nat → Bool) (d : Nat) (w : World) : ∀ is : List Nat, (∀ i ∈ is, i < 64) → (Op.eqItems (d + 1) 4 1 (bw f) (bw g) is).run Try.prog w = .ok (is.all fun i => f i == g i) w
  | [], _ => by simp [Op.eqItems]
  | i :: is, h => by
    have ih := run_eqItems_bits f g d w is (fun j hj => h j (List.mem_cons_of_mem _ hj))
    simp only [Op.eqItems, Sem.run_bind, run_part_bool f i (h i (List.mem_cons_self ..)), run_part_bool g i (h i (List.mem_cons_self ..)), Result.andThen_ok, run_equalIn_bool' w d 4 (f i) (g i) Try.underlying4]
    cases hfg : (f i == g i) <;> simp [hfg, ih]
theorem run_eq_rows (f g : Nat → Bool) (w : World) : (Op.equalIn 10000 29 (.agg (bw f)) (.agg (bw g))).run Try.prog w = .ok ((List.range 64).all fun i => f i == g i) w := by
  have hc : Try.prog.cellsOf 4 = 1 := by kernel_rfl
  have hs : (Try.prog.info? 4).isSome = true := by kernel_rfl
  have hi := Option.isSome_iff_exists.1 hs
  obtain ⟨i, hi⟩ := hi
  have := run_equalIn_array (P := Try.prog) (w := w) 9999 (bw f) (bw g) Try.underlying29 hi
  rw [this, hc]
  exact run_eqItems_bits f g 9998 w _ (fun j hj => by simpa using hj)
end Go.Proofs.Ytmdopndlnnapiaa
