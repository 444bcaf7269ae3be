/-
  The contract of the reference's Div.
  The contract of the reference's Div where the divisor is nought; Sign, Mask.
  The contract of the reference's Sign and Mask.
-/
import Derived.Test.YtdbcpnpcnkccaaaMO
import Derived.StillTailTactics
set_option linter.unusedSimpArgs false
set_option linter.unusedVariables false
namespace Go.Proofs.Ytdbcpnpcnkccaaa
set_option maxRecDepth 100000
open Go.RowKit

namespace Wb
def dv (n : Nat) (f g : Nat → Bool) : Nat → (Nat → Bool) × (Nat → Bool)
  | 0 => (off, off)
  | m + 1 =>
    if (dv n f g m).2 (n - 1) || !decide (val (upB n (dv n f g m).2 (f (n - 1 - m))) n < val g n) then (upd (dv n f g m).1 (n - 1 - m) true, addB n (upB n (dv n f g m).2 (f (n - 1 - m))) (notB n g) true)
    else ((dv n f g m).1, upB n (dv n f g m).2 (f (n - 1 - m)))
end Wb

/-- In a region that draws its order: a row is loaded whole. -/
theorem still_load_row {ops : Array Oper} {rest : List Oper} {o : Oper} {a : Act} {w : World} {Q : Act → Prop} (x : Operand) (g : Nat) (f : Nat → Bool) (hr : Row w g f) (hgd : o.guard = none) (ho : o.op = .load 161 x)
    (hx : a.eval x = .pointer (some ⟨g, 0, none⟩)) (h : wpStill Try.prog ops w Q rest (a.put o.dst (.agg (bw f)))) : wpStill Try.prog ops w Q (o :: rest) a := by
  refine wpStill_step (fun K hK => ?_)
  have hw : Region.wanted o (yielded ops a.tmps) = true := by simp [Region.wanted, hgd]
  rw [if_pos hw]
  unfold Oper.still execOp
  simp only [ho, hx, Instr.loadAt, Instr.sureAddr, Sem.run_bind, Sem.run_pure, Result.andThen_ok, run_loadVar_row w g 161 161 (bw f) (0, 0) _ hr Try.underlying161 rfl (size29 f)]
  exact ⟨rfl, hK _ h⟩

/-- A guarded load of a row, where the guard lets it. -/
theorem load_row_want {ops : Array Oper} {rest : List Oper} {o : Oper} {a : Act} {w : World} {Q : Exit → Act → World → Prop} (x : Operand) (g : Nat) (f : Nat → Bool) (hr : Row w g f) (hw : Region.wanted o (yielded ops a.tmps) = true) (ho : o.op = .load 161 x)
    (hx : a.eval x = .pointer (some ⟨g, 0, none⟩)) (h : wpList Try.prog ops Q rest (a.put o.dst (.agg (bw f))) w) : wpList Try.prog ops Q (o :: rest) a w :=
  wpList_step fun K hK => by
    rw [if_pos hw]
    exact wp_load_row 161 x ho g hx 161 (bw f) (0, 0) _ hr Try.underlying161 rfl (size29 f) (hK _ _ h)
/-- The step of a region that draws its order: a row is loaded, a row is stored. -/
theorem step_load {ops : Array Oper} {o : Oper} {a : Act} {w : World} {K : Act → World → Prop} {Q : Exit → Act → World → Prop} {E : Prop} (x : Operand) (g : Nat) (f : Nat → Bool) (hr : Row w g f) (hgd : o.guard = none) (ho : o.op = .load 161 x)
    (hx : a.eval x = .pointer (some ⟨g, 0, none⟩)) (h : K (a.put o.dst (.agg (bw f))) w) : if Region.wanted o (yielded ops a.tmps) = true then Oper.wp Try.prog o a w K Q else E := by
  rw [if_pos (by simp [Region.wanted, hgd])]
  exact wp_load_row 161 x ho g hx 161 (bw f) (0, 0) _ hr Try.underlying161 rfl (size29 f) h
theorem step_store {ops : Array Oper} {o : Oper} {a : Act} {w : World} {K : Act → World → Prop} {Q : Exit → Act → World → Prop} {E : Prop} (x y : Operand) (g : Nat) (f k : Nat → Bool) (hr : Row w g f) (hgd : o.guard = none) (ho : o.op = .store 161 x y)
    (hx : a.eval x = .pointer (some ⟨g, 0, none⟩)) (hy : a.eval y = .agg (bw k)) (h : K (a.put o.dst undef) (w.setRow g (bw k))) : if Region.wanted o (yielded ops a.tmps) = true then Oper.wp Try.prog o a w K Q else E := by
  rw [if_pos (by simp [Region.wanted, hgd])]
  exact wp_store_row 161 x y ho g (bw k) hx hy 161 (bw f) hr (size29 k) (by rw [bw_size, bw_size]) (bw_one k) h

theorem ret_rows {fn : Func} {p p' : Tmp} {R : Ending → World → Prop} {a : Act} {w : World} (g h : Nat) (f k : Nat → Bool) (hr : Row w g f) (hs : Row w h k) (hf : fn.results = #[.cell p 161, .cell p' 161]) (hd : a.defers = []) (hp : a.tmps.getD p undef = .pointer (some ⟨g, 0, none⟩)) (hq : a.tmps.getD p' undef = .pointer (some ⟨h, 0, none⟩)) (hR : R (.returned (.tuple #[.agg (bw f), .agg (bw k)])) w) :
    bodyPost Try.prog fn R .ret a w := by
  refine bodyPost_ret ?_ hd hR
  have hp' : a.tmps[p]?.getD undef = .pointer (some ⟨g, 0, none⟩) := by simpa using hp
  have hq' : a.tmps[p']?.getD undef = .pointer (some ⟨h, 0, none⟩) := by simpa using hq
  simp [results, hf, hp', hq', asAddr, run_loadVar_row w g 161 161 (bw f) (0, 0) _ hr Try.underlying161 rfl (size29 f), run_loadVar_row w h 161 161 (bw k) (0, 0) _ hs Try.underlying161 rfl (size29 k)]

set_option maxHeartbeats 3000000 in
theorem div_pos (n : Nat) (f g : Nat → Bool) (h1 : 1 ≤ n) (h2 : n ≤ 64) (hg : Wb.val g 64 ≠ 0) (w : World) :
    Calls Try.prog 119 #[.int .i64 n, .agg (bw f), .agg (bw g)] w fun e w' => e = .returned (.tuple #[.agg (bw (Wb.dv n f g n).1), .agg (bw (Wb.dv n f g n).2)]) ∧ Below w.heap.size w w' := by
  have hv : (((Wb.val g 64 : Nat) : Int) == 0) = false := by simp; omega
  have hv' : (Wb.val g 64 == 0) = false := by simp; omega
  go_enter Try.func119, Try.ntmps119
  go_upto_region 1 with (fail)
  rw [bw_zero]
  refine gen_world (S := fun W => Row W w.heap.size f ∧ Row W (w.heap.size + 1) g ∧ Row W (w.heap.size + 1 + 1) off ∧ Row W (w.heap.size + 1 + 1 + 1) off ∧ Below w.heap.size w W) ?_ ?_
  · exact ⟨(((Row.new w f).alloc _).alloc _).alloc _, ((Row.new_at (w.alloc _) g (by simp)).alloc _).alloc _, (Row.new_at ((w.alloc _).alloc _) off (by simp)).alloc _, Row.new_at (((w.alloc _).alloc _).alloc _) off (by simp), below_four⟩
  intro W ⟨r0, r1, r2, r3, hb⟩
  go_wp2_with (first
    | (with_reducible refine load_row (.tmp 5) _ _ r1 rfl rfl rfl ?_)
    | fail)
  refine (num_any g _).mono ?_
  rintro e w1 ⟨rfl, hb1⟩
  go_wp2
  rw [bw_zero]
  refine gen_world (S := fun V => Row V w.heap.size f ∧ Row V (w.heap.size + 1) g ∧ Row V (w.heap.size + 1 + 1) off ∧ Row V (w.heap.size + 1 + 1 + 1) off ∧ Row V w1.heap.size off ∧ Row V (w1.heap.size + 1) off ∧ Below w.heap.size w V) ?_ ?_
  · have hs := hb.size
    have hs1 := hb1.size
    exact ⟨((r0.below hb1 r0.lt).alloc _).alloc _, ((r1.below hb1 r1.lt).alloc _).alloc _, ((r2.below hb1 r2.lt).alloc _).alloc _, ((r3.below hb1 r3.lt).alloc _).alloc _, (Row.new w1 off).alloc _, Row.new_at (w1.alloc _) off (by simp), ((hb.trans (hb1.mono hs)).alloc (by omega) _).alloc (by simp; omega) _⟩
  have g1 : w.heap.size + 1 + 1 + 1 < w1.heap.size := by have := r3.lt; have := hb1.size; omega
  clear r0 r1 r2 r3 hb hb1
  intro V ⟨r0, r1, r2, r3, r4, r5, hb⟩
  generalize w1.heap.size = g8 at *
  generalize hB : w.heap.size = B at *
  have HB := Lib.hid hB
  clear hB
  go_loopw [10] (fun i V => ∃ m : Nat, m ≤ n ∧ i = .int .i64 ((n : Int) - 1 - m) ∧ Row V B f ∧ Row V (B + 1) g ∧ Row V (B + 1 + 1) off ∧ Row V (B + 1 + 1 + 1) off ∧ Row V g8 (Wb.dv n f g m).1 ∧ Row V (g8 + 1) (Wb.dv n f g m).2 ∧ Below B w V) (fun i _ => (intOf i + 1).toNat)
  case atStart => exact ⟨0, Nat.zero_le _, congrArg (Value.int .i64) (by omega), r0, r1, r2, r3, r4, r5, hb⟩
  case round =>
    clear r0 r1 r2 r3 r4 r5 hb V
    obtain ⟨m, hm, rfl, r0, r1, r2, r3, r4, r5, hb⟩ := hrel
    by_cases hlt : m < n
    · have hi : ((n : Int) - 1 - m) = ((n - 1 - m : Nat) : Int) := by omega
      rw [hi]
      clear hi
      have hdv : Wb.dv n f g (m + 1) = if (Wb.dv n f g m).2 (n - 1) || !decide (Wb.val (Wb.upB n (Wb.dv n f g m).2 (f (n - 1 - m))) n < Wb.val g n) then (upd (Wb.dv n f g m).1 (n - 1 - m) true, Wb.addB n (Wb.upB n (Wb.dv n f g m).2 (f (n - 1 - m))) (Wb.notB n g) true) else ((Wb.dv n f g m).1, Wb.upB n (Wb.dv n f g m).2 (f (n - 1 - m))) := rfl
      generalize (Wb.dv n f g m).1 = q at *
      generalize (Wb.dv n f g m).2 = r at *
      have hk : n - 1 - m < n := by omega
      have hk' : n - 1 - m + m + 1 = n := by omega
      generalize n - 1 - m = k at *
      have hk64 : (k : Int) < 64 := by omega
      have HDV := Lib.hid hdv
      clear hdv
      have c0 := r0.cell (j := k) (by omega)
      have c5 := r5.cell (j := n - 1) (by omega)
      have hc1 : ((n : Int) - 1).toNat = n - 1 := by omega
      have hc2 : 0 ≤ (n : Int) - 1 := by omega
      have hc3 : (n : Int) - 1 < 64 := by omega
      go_wp2
      refine wp_region_still_tail 5 (by kernel_rfl) (by kernel_rfl) ?_
      simp only [List.take_succ_cons, List.take_zero, List.drop_succ_cons, List.drop_zero]
      change wpStill _ _ wr.drew (fun a' => wpList _ _ _ _ a' wr.drew) _ _
      still_step
      refine still_load_row (.tmp 9) (g8 + 1) r r5 rfl rfl rfl ?_
      still_step
      still_step
      still_step
      refine wpStill_nil ?_
      have d0 : Row wr.drew B f := r0
      have d1 : Row wr.drew (B + 1) g := r1
      have d2 : Row wr.drew (B + 1 + 1) off := r2
      have d3 : Row wr.drew (B + 1 + 1 + 1) off := r3
      have d4 : Row wr.drew g8 q := r4
      have d5 : Row wr.drew (g8 + 1) r := r5
      have db : Below B w wr.drew := hb.drew
      clear r0 r1 r2 r3 r4 r5 hb c0 c5
      generalize wr.drew = wd at *
      go_wp2_with fail
      refine (up_any n _ _ h1 h2 _).mono ?_
      rintro e w2 ⟨rfl, hb2⟩
      have q5 := (d5.below hb2 d5.lt)
      have e0 := (d0.below hb2 d0.lt).row_other (k := g8 + 1) (by omega) (bw (Wb.upB n r (f k)))
      have e1 := (d1.below hb2 d1.lt).row_other (k := g8 + 1) (by omega) (bw (Wb.upB n r (f k)))
      have e2 := (d2.below hb2 d2.lt).row_other (k := g8 + 1) (by omega) (bw (Wb.upB n r (f k)))
      have e3 := (d3.below hb2 d3.lt).row_other (k := g8 + 1) (by omega) (bw (Wb.upB n r (f k)))
      have e4 := (d4.below hb2 d4.lt).row_other (k := g8 + 1) (by omega) (bw (Wb.upB n r (f k)))
      have e5 := q5.row_same (Wb.upB n r (f k))
      have eb : Below B w (w2.setRow (g8 + 1) (bw (Wb.upB n r (f k)))) := below_setRow (db.trans (hb2.mono (by have := d0.lt; omega))) (by omega) _
      clear d0 d1 d2 d3 d4 d5 db hb2
      go_upto_region 9 with (first
        | (with_reducible refine store_row (.tmp 9) (.tmp 34) _ _ _ q5 rfl rfl rfl rfl ?_)
        | fail)
      clear q5
      generalize w2.setRow (g8 + 1) (bw (Wb.upB n r (f k))) = w3 at *
      generalize hr1 : Wb.upB n r (f k) = r1 at *
      clear hr1
      generalize r (n - 1) = ov at *
      cases ov
      · by_cases hl : Wb.val r1 n < Wb.val g n
        · have HD := Lib.hid (show Wb.dv n f g (m + 1) = (q, r1) by rw [HDV.out]; simp [hl])
          go_wp2_with (first
            | ((with_reducible refine load_row_want (.tmp 9) _ _ e5 ?_ rfl rfl ?_); (· rfl))
            | ((with_reducible refine load_row_want (.tmp 5) _ _ e1 ?_ rfl rfl ?_); (· rfl))
            | fail)
          refine (less_any' n _ _ h2 _).mono ?_
          rintro e w4 ⟨rfl, hb4⟩
          go_wp2
          go_roundw
          case rel => exact ⟨m + 1, by omega, congrArg (Value.int .i64) (by omega), e0.below hb4 e0.lt, e1.below hb4 e1.lt, e2.below hb4 e2.lt, e3.below hb4 e3.lt, by rw [HD.out]; exact e4.below hb4 e4.lt, by rw [HD.out]; exact e5.below hb4 e5.lt, eb.trans (hb4.mono (by have := e0.lt; omega))⟩
          case measure => (simp [intOf]; try omega)
        · have HD := Lib.hid (show Wb.dv n f g (m + 1) = (upd q k true, Wb.addB n r1 (Wb.notB n g) true) by rw [HDV.out]; simp [hl])
          have hl' : decide (Wb.val r1 n < Wb.val g n) = false := by simpa using hl
          go_wp2_with (first
            | ((with_reducible refine load_row_want (.tmp 9) _ _ e5 ?_ rfl rfl ?_); (· rfl))
            | ((with_reducible refine load_row_want (.tmp 5) _ _ e1 ?_ rfl rfl ?_); (· rfl))
            | fail)
          refine (less_any' n _ _ h2 _).mono ?_
          rintro e w4 ⟨rfl, hb4⟩
          have k0 := e0.below hb4 e0.lt
          have k1 := e1.below hb4 e1.lt
          have k2 := e2.below hb4 e2.lt
          have k3 := e3.below hb4 e3.lt
          have k4 := e4.below hb4 e4.lt
          have k5 := e5.below hb4 e5.lt
          have kb := eb.trans (hb4.mono (by have := e0.lt; omega))
          clear e0 e1 e2 e3 e4 e5 eb hb4
          go_wp2
          refine wp_region_any (by kernel_rfl) ?_
          change wpAny _ _ _ _ _ _ _ w4.drew
          have a0 : Row w4.drew B f := k0
          have a1 : Row w4.drew (B + 1) g := k1
          have a2 : Row w4.drew (B + 1 + 1) off := k2
          have a3 : Row w4.drew (B + 1 + 1 + 1) off := k3
          have a4 : Row w4.drew g8 q := k4
          have a5 : Row w4.drew (g8 + 1) r1 := k5
          have ab : Below B w w4.drew := kb.drew
          clear k0 k1 k2 k3 k4 k5 kb
          generalize w4.drew = w40 at *
          refine wpAny_take (i := 0) (v := .int .i64 n) rfl (by kernel_rfl) (by kernel_rfl) (by kernel_rfl) (fun _ _ _ h => h) (Or.inl ⟨by rfl, fun _ => rfl⟩) ?_
          refine wpAny_take (i := 2) (v := .int .i64 n) rfl (by kernel_rfl) (by kernel_rfl) (by kernel_rfl) (fun _ _ _ h => h) (Or.inl ⟨by rfl, fun _ => rfl⟩) ?_
          simp only [Act.put, List.setIfInBounds_toArray, List.set_cons_zero, List.set_cons_succ]
          refine wpAny_ready (rs := [1, 3]) (by kernel_rfl) (by simp) (AllReady.cons rfl (fun K hK => ?_) (AllReady.cons rfl (fun K hK => ?_) AllReady.nil))
          · with_reducible refine step_load (.tmp 9) (g8 + 1) r1 a5 rfl rfl rfl ?_
            refine hK _ _ ?_
            clear hK K
            simp only [Act.put, List.setIfInBounds_toArray, List.set_cons_zero, List.set_cons_succ]
            refine wpAny_ready (rs := [3]) (by kernel_rfl) (by simp) (AllReady.cons rfl (fun K hK => ?_) AllReady.nil)
            with_reducible refine step_load (.tmp 5) (B + 1) g a1 rfl rfl rfl ?_
            refine hK _ _ ?_
            clear hK K
            simp only [Act.put, List.setIfInBounds_toArray, List.set_cons_zero, List.set_cons_succ]
            refine wpAny_ready (rs := [4]) (by kernel_rfl) (by simp) (AllReady.cons rfl (fun K hK => ?_) AllReady.nil)
            go_simp
            refine (not_any n g h2 _).mono ?_
            rintro e w5 ⟨rfl, hb5⟩
            refine hK _ _ ?_
            clear hK K
            have b0 := a0.below hb5 a0.lt
            have b1 := a1.below hb5 a1.lt
            have b2 := a2.below hb5 a2.lt
            have b3 := a3.below hb5 a3.lt
            have b4 := a4.below hb5 a4.lt
            have b5 := a5.below hb5 a5.lt
            have bb := ab.trans (hb5.mono (by have := a0.lt; omega))
            clear a0 a1 a2 a3 a4 a5 ab hb5
            refine wpAny_ready (rs := [5]) (by kernel_rfl) (by simp) (AllReady.cons rfl (fun K hK => ?_) AllReady.nil)
            go_simp
            refine (add_any n r1 (Wb.notB n g) true h2 _).mono ?_
            rintro e w6 ⟨rfl, hb6⟩
            refine hK _ _ ?_
            clear hK K
            have d0 := b0.below hb6 b0.lt
            have d1 := b1.below hb6 b1.lt
            have d2 := b2.below hb6 b2.lt
            have d3 := b3.below hb6 b3.lt
            have d4 := b4.below hb6 b4.lt
            have d5 := b5.below hb6 b5.lt
            have db := bb.trans (hb6.mono (by have := b0.lt; omega))
            clear b0 b1 b2 b3 b4 b5 bb hb6
            refine wpAny_ready (rs := [6]) (by kernel_rfl) (by simp) (AllReady.cons rfl (fun K hK => ?_) AllReady.nil)
            with_reducible refine step_store (.tmp 9) (.tmp 48) (g8 + 1) r1 (Wb.addB n r1 (Wb.notB n g) true) d5 rfl rfl rfl rfl ?_
            refine hK _ _ ?_
            clear hK K
            have x0 := d0.row_other (k := g8 + 1) (by omega) (bw (Wb.addB n r1 (Wb.notB n g) true))
            have x1 := d1.row_other (k := g8 + 1) (by omega) (bw (Wb.addB n r1 (Wb.notB n g) true))
            have x2 := d2.row_other (k := g8 + 1) (by omega) (bw (Wb.addB n r1 (Wb.notB n g) true))
            have x3 := d3.row_other (k := g8 + 1) (by omega) (bw (Wb.addB n r1 (Wb.notB n g) true))
            have x4 := d4.row_other (k := g8 + 1) (by omega) (bw (Wb.addB n r1 (Wb.notB n g) true))
            have x5 := d5.row_same (Wb.addB n r1 (Wb.notB n g) true)
            have xb := below_setRow db (show B ≤ g8 + 1 by omega) (bw (Wb.addB n r1 (Wb.notB n g) true))
            clear d0 d1 d2 d3 d4 d5 db
            refine wpAny_done (by kernel_rfl) ?_ _
            generalize w6.setRow (g8 + 1) (bw (Wb.addB n r1 (Wb.notB n g) true)) = w7 at *
            have c4 := x4.cell (j := k) (by omega)
            have z4 := x4.loose k
            simp only [Act.put, List.setIfInBounds_toArray, List.set_cons_zero, List.set_cons_succ]
            go_wp2
            go_roundw
            case rel => exact ⟨m + 1, by omega, congrArg (Value.int .i64) (by omega), x0.set_other (by omega) _ _, x1.set_other (by omega) _ _, x2.set_other (by omega) _ _, x3.set_other (by omega) _ _, by rw [HD.out]; exact x4.set_same k true, by rw [HD.out]; exact x5.set_other (by omega) _ _, xb.setCell (by show B ≤ g8; omega) _⟩
            case measure => (simp [intOf]; try omega)
          · with_reducible refine step_load (.tmp 5) (B + 1) g a1 rfl rfl rfl ?_
            refine hK _ _ ?_
            clear hK K
            simp only [Act.put, List.setIfInBounds_toArray, List.set_cons_zero, List.set_cons_succ]
            refine wpAny_ready (rs := [1, 4]) (by kernel_rfl) (by simp) (AllReady.cons rfl (fun K hK => ?_) (AllReady.cons rfl (fun K hK => ?_) AllReady.nil))
            · with_reducible refine step_load (.tmp 9) (g8 + 1) r1 a5 rfl rfl rfl ?_
              refine hK _ _ ?_
              clear hK K
              simp only [Act.put, List.setIfInBounds_toArray, List.set_cons_zero, List.set_cons_succ]
              refine wpAny_ready (rs := [4]) (by kernel_rfl) (by simp) (AllReady.cons rfl (fun K hK => ?_) AllReady.nil)
              go_simp
              refine (not_any n g h2 _).mono ?_
              rintro e w5 ⟨rfl, hb5⟩
              refine hK _ _ ?_
              clear hK K
              have b0 := a0.below hb5 a0.lt
              have b1 := a1.below hb5 a1.lt
              have b2 := a2.below hb5 a2.lt
              have b3 := a3.below hb5 a3.lt
              have b4 := a4.below hb5 a4.lt
              have b5 := a5.below hb5 a5.lt
              have bb := ab.trans (hb5.mono (by have := a0.lt; omega))
              clear a0 a1 a2 a3 a4 a5 ab hb5
              refine wpAny_ready (rs := [5]) (by kernel_rfl) (by simp) (AllReady.cons rfl (fun K hK => ?_) AllReady.nil)
              go_simp
              refine (add_any n r1 (Wb.notB n g) true h2 _).mono ?_
              rintro e w6 ⟨rfl, hb6⟩
              refine hK _ _ ?_
              clear hK K
              have d0 := b0.below hb6 b0.lt
              have d1 := b1.below hb6 b1.lt
              have d2 := b2.below hb6 b2.lt
              have d3 := b3.below hb6 b3.lt
              have d4 := b4.below hb6 b4.lt
              have d5 := b5.below hb6 b5.lt
              have db := bb.trans (hb6.mono (by have := b0.lt; omega))
              clear b0 b1 b2 b3 b4 b5 bb hb6
              refine wpAny_ready (rs := [6]) (by kernel_rfl) (by simp) (AllReady.cons rfl (fun K hK => ?_) AllReady.nil)
              with_reducible refine step_store (.tmp 9) (.tmp 48) (g8 + 1) r1 (Wb.addB n r1 (Wb.notB n g) true) d5 rfl rfl rfl rfl ?_
              refine hK _ _ ?_
              clear hK K
              have x0 := d0.row_other (k := g8 + 1) (by omega) (bw (Wb.addB n r1 (Wb.notB n g) true))
              have x1 := d1.row_other (k := g8 + 1) (by omega) (bw (Wb.addB n r1 (Wb.notB n g) true))
              have x2 := d2.row_other (k := g8 + 1) (by omega) (bw (Wb.addB n r1 (Wb.notB n g) true))
              have x3 := d3.row_other (k := g8 + 1) (by omega) (bw (Wb.addB n r1 (Wb.notB n g) true))
              have x4 := d4.row_other (k := g8 + 1) (by omega) (bw (Wb.addB n r1 (Wb.notB n g) true))
              have x5 := d5.row_same (Wb.addB n r1 (Wb.notB n g) true)
              have xb := below_setRow db (show B ≤ g8 + 1 by omega) (bw (Wb.addB n r1 (Wb.notB n g) true))
              clear d0 d1 d2 d3 d4 d5 db
              refine wpAny_done (by kernel_rfl) ?_ _
              generalize w6.setRow (g8 + 1) (bw (Wb.addB n r1 (Wb.notB n g) true)) = w7 at *
              have c4 := x4.cell (j := k) (by omega)
              have z4 := x4.loose k
              simp only [Act.put, List.setIfInBounds_toArray, List.set_cons_zero, List.set_cons_succ]
              go_wp2
              go_roundw
              case rel => exact ⟨m + 1, by omega, congrArg (Value.int .i64) (by omega), x0.set_other (by omega) _ _, x1.set_other (by omega) _ _, x2.set_other (by omega) _ _, x3.set_other (by omega) _ _, by rw [HD.out]; exact x4.set_same k true, by rw [HD.out]; exact x5.set_other (by omega) _ _, xb.setCell (by show B ≤ g8; omega) _⟩
              case measure => (simp [intOf]; try omega)
            · go_simp
              refine (not_any n g h2 _).mono ?_
              rintro e w5 ⟨rfl, hb5⟩
              refine hK _ _ ?_
              clear hK K
              have b0 := a0.below hb5 a0.lt
              have b1 := a1.below hb5 a1.lt
              have b2 := a2.below hb5 a2.lt
              have b3 := a3.below hb5 a3.lt
              have b4 := a4.below hb5 a4.lt
              have b5 := a5.below hb5 a5.lt
              have bb := ab.trans (hb5.mono (by have := a0.lt; omega))
              clear a0 a1 a2 a3 a4 a5 ab hb5
              refine wpAny_ready (rs := [1]) (by kernel_rfl) (by simp) (AllReady.cons rfl (fun K hK => ?_) AllReady.nil)
              with_reducible refine step_load (.tmp 9) (g8 + 1) r1 b5 rfl rfl rfl ?_
              refine hK _ _ ?_
              clear hK K
              simp only [Act.put, List.setIfInBounds_toArray, List.set_cons_zero, List.set_cons_succ]
              refine wpAny_ready (rs := [5]) (by kernel_rfl) (by simp) (AllReady.cons rfl (fun K hK => ?_) AllReady.nil)
              go_simp
              refine (add_any n r1 (Wb.notB n g) true h2 _).mono ?_
              rintro e w6 ⟨rfl, hb6⟩
              refine hK _ _ ?_
              clear hK K
              have d0 := b0.below hb6 b0.lt
              have d1 := b1.below hb6 b1.lt
              have d2 := b2.below hb6 b2.lt
              have d3 := b3.below hb6 b3.lt
              have d4 := b4.below hb6 b4.lt
              have d5 := b5.below hb6 b5.lt
              have db := bb.trans (hb6.mono (by have := b0.lt; omega))
              clear b0 b1 b2 b3 b4 b5 bb hb6
              refine wpAny_ready (rs := [6]) (by kernel_rfl) (by simp) (AllReady.cons rfl (fun K hK => ?_) AllReady.nil)
              with_reducible refine step_store (.tmp 9) (.tmp 48) (g8 + 1) r1 (Wb.addB n r1 (Wb.notB n g) true) d5 rfl rfl rfl rfl ?_
              refine hK _ _ ?_
              clear hK K
              have x0 := d0.row_other (k := g8 + 1) (by omega) (bw (Wb.addB n r1 (Wb.notB n g) true))
              have x1 := d1.row_other (k := g8 + 1) (by omega) (bw (Wb.addB n r1 (Wb.notB n g) true))
              have x2 := d2.row_other (k := g8 + 1) (by omega) (bw (Wb.addB n r1 (Wb.notB n g) true))
              have x3 := d3.row_other (k := g8 + 1) (by omega) (bw (Wb.addB n r1 (Wb.notB n g) true))
              have x4 := d4.row_other (k := g8 + 1) (by omega) (bw (Wb.addB n r1 (Wb.notB n g) true))
              have x5 := d5.row_same (Wb.addB n r1 (Wb.notB n g) true)
              have xb := below_setRow db (show B ≤ g8 + 1 by omega) (bw (Wb.addB n r1 (Wb.notB n g) true))
              clear d0 d1 d2 d3 d4 d5 db
              refine wpAny_done (by kernel_rfl) ?_ _
              generalize w6.setRow (g8 + 1) (bw (Wb.addB n r1 (Wb.notB n g) true)) = w7 at *
              have c4 := x4.cell (j := k) (by omega)
              have z4 := x4.loose k
              simp only [Act.put, List.setIfInBounds_toArray, List.set_cons_zero, List.set_cons_succ]
              go_wp2
              go_roundw
              case rel => exact ⟨m + 1, by omega, congrArg (Value.int .i64) (by omega), x0.set_other (by omega) _ _, x1.set_other (by omega) _ _, x2.set_other (by omega) _ _, x3.set_other (by omega) _ _, by rw [HD.out]; exact x4.set_same k true, by rw [HD.out]; exact x5.set_other (by omega) _ _, xb.setCell (by show B ≤ g8; omega) _⟩
              case measure => (simp [intOf]; try omega)
      · have HD := Lib.hid (show Wb.dv n f g (m + 1) = (upd q k true, Wb.addB n r1 (Wb.notB n g) true) by rw [HDV.out]; simp)
        go_wp2
        refine wp_region_any (by kernel_rfl) ?_
        change wpAny _ _ _ _ _ _ _ w3.drew
        have a0 : Row w3.drew B f := e0
        have a1 : Row w3.drew (B + 1) g := e1
        have a2 : Row w3.drew (B + 1 + 1) off := e2
        have a3 : Row w3.drew (B + 1 + 1 + 1) off := e3
        have a4 : Row w3.drew g8 q := e4
        have a5 : Row w3.drew (g8 + 1) r1 := e5
        have ab : Below B w w3.drew := eb.drew
        clear e0 e1 e2 e3 e4 e5 eb
        generalize w3.drew = w4 at *
        refine wpAny_take (i := 0) (v := .int .i64 n) rfl (by kernel_rfl) (by kernel_rfl) (by kernel_rfl) (fun _ _ _ h => h) (Or.inl ⟨by rfl, fun _ => rfl⟩) ?_
        refine wpAny_take (i := 2) (v := .int .i64 n) rfl (by kernel_rfl) (by kernel_rfl) (by kernel_rfl) (fun _ _ _ h => h) (Or.inl ⟨by rfl, fun _ => rfl⟩) ?_
        simp only [Act.put, List.setIfInBounds_toArray, List.set_cons_zero, List.set_cons_succ]
        refine wpAny_ready (rs := [1, 3]) (by kernel_rfl) (by simp) (AllReady.cons rfl (fun K hK => ?_) (AllReady.cons rfl (fun K hK => ?_) AllReady.nil))
        · with_reducible refine step_load (.tmp 9) (g8 + 1) r1 a5 rfl rfl rfl ?_
          refine hK _ _ ?_
          clear hK K
          simp only [Act.put, List.setIfInBounds_toArray, List.set_cons_zero, List.set_cons_succ]
          refine wpAny_ready (rs := [3]) (by kernel_rfl) (by simp) (AllReady.cons rfl (fun K hK => ?_) AllReady.nil)
          with_reducible refine step_load (.tmp 5) (B + 1) g a1 rfl rfl rfl ?_
          refine hK _ _ ?_
          clear hK K
          simp only [Act.put, List.setIfInBounds_toArray, List.set_cons_zero, List.set_cons_succ]
          refine wpAny_ready (rs := [4]) (by kernel_rfl) (by simp) (AllReady.cons rfl (fun K hK => ?_) AllReady.nil)
          go_simp
          refine (not_any n g h2 _).mono ?_
          rintro e w5 ⟨rfl, hb5⟩
          refine hK _ _ ?_
          clear hK K
          have b0 := a0.below hb5 a0.lt
          have b1 := a1.below hb5 a1.lt
          have b2 := a2.below hb5 a2.lt
          have b3 := a3.below hb5 a3.lt
          have b4 := a4.below hb5 a4.lt
          have b5 := a5.below hb5 a5.lt
          have bb := ab.trans (hb5.mono (by have := a0.lt; omega))
          clear a0 a1 a2 a3 a4 a5 ab hb5
          refine wpAny_ready (rs := [5]) (by kernel_rfl) (by simp) (AllReady.cons rfl (fun K hK => ?_) AllReady.nil)
          go_simp
          refine (add_any n r1 (Wb.notB n g) true h2 _).mono ?_
          rintro e w6 ⟨rfl, hb6⟩
          refine hK _ _ ?_
          clear hK K
          have d0 := b0.below hb6 b0.lt
          have d1 := b1.below hb6 b1.lt
          have d2 := b2.below hb6 b2.lt
          have d3 := b3.below hb6 b3.lt
          have d4 := b4.below hb6 b4.lt
          have d5 := b5.below hb6 b5.lt
          have db := bb.trans (hb6.mono (by have := b0.lt; omega))
          clear b0 b1 b2 b3 b4 b5 bb hb6
          refine wpAny_ready (rs := [6]) (by kernel_rfl) (by simp) (AllReady.cons rfl (fun K hK => ?_) AllReady.nil)
          with_reducible refine step_store (.tmp 9) (.tmp 48) (g8 + 1) r1 (Wb.addB n r1 (Wb.notB n g) true) d5 rfl rfl rfl rfl ?_
          refine hK _ _ ?_
          clear hK K
          have x0 := d0.row_other (k := g8 + 1) (by omega) (bw (Wb.addB n r1 (Wb.notB n g) true))
          have x1 := d1.row_other (k := g8 + 1) (by omega) (bw (Wb.addB n r1 (Wb.notB n g) true))
          have x2 := d2.row_other (k := g8 + 1) (by omega) (bw (Wb.addB n r1 (Wb.notB n g) true))
          have x3 := d3.row_other (k := g8 + 1) (by omega) (bw (Wb.addB n r1 (Wb.notB n g) true))
          have x4 := d4.row_other (k := g8 + 1) (by omega) (bw (Wb.addB n r1 (Wb.notB n g) true))
          have x5 := d5.row_same (Wb.addB n r1 (Wb.notB n g) true)
          have xb := below_setRow db (show B ≤ g8 + 1 by omega) (bw (Wb.addB n r1 (Wb.notB n g) true))
          clear d0 d1 d2 d3 d4 d5 db
          refine wpAny_done (by kernel_rfl) ?_ _
          generalize w6.setRow (g8 + 1) (bw (Wb.addB n r1 (Wb.notB n g) true)) = w7 at *
          have c4 := x4.cell (j := k) (by omega)
          have z4 := x4.loose k
          simp only [Act.put, List.setIfInBounds_toArray, List.set_cons_zero, List.set_cons_succ]
          go_wp2
          go_roundw
          case rel => exact ⟨m + 1, by omega, congrArg (Value.int .i64) (by omega), x0.set_other (by omega) _ _, x1.set_other (by omega) _ _, x2.set_other (by omega) _ _, x3.set_other (by omega) _ _, by rw [HD.out]; exact x4.set_same k true, by rw [HD.out]; exact x5.set_other (by omega) _ _, xb.setCell (by show B ≤ g8; omega) _⟩
          case measure => (simp [intOf]; try omega)
        · with_reducible refine step_load (.tmp 5) (B + 1) g a1 rfl rfl rfl ?_
          refine hK _ _ ?_
          clear hK K
          simp only [Act.put, List.setIfInBounds_toArray, List.set_cons_zero, List.set_cons_succ]
          refine wpAny_ready (rs := [1, 4]) (by kernel_rfl) (by simp) (AllReady.cons rfl (fun K hK => ?_) (AllReady.cons rfl (fun K hK => ?_) AllReady.nil))
          · with_reducible refine step_load (.tmp 9) (g8 + 1) r1 a5 rfl rfl rfl ?_
            refine hK _ _ ?_
            clear hK K
            simp only [Act.put, List.setIfInBounds_toArray, List.set_cons_zero, List.set_cons_succ]
            refine wpAny_ready (rs := [4]) (by kernel_rfl) (by simp) (AllReady.cons rfl (fun K hK => ?_) AllReady.nil)
            go_simp
            refine (not_any n g h2 _).mono ?_
            rintro e w5 ⟨rfl, hb5⟩
            refine hK _ _ ?_
            clear hK K
            have b0 := a0.below hb5 a0.lt
            have b1 := a1.below hb5 a1.lt
            have b2 := a2.below hb5 a2.lt
            have b3 := a3.below hb5 a3.lt
            have b4 := a4.below hb5 a4.lt
            have b5 := a5.below hb5 a5.lt
            have bb := ab.trans (hb5.mono (by have := a0.lt; omega))
            clear a0 a1 a2 a3 a4 a5 ab hb5
            refine wpAny_ready (rs := [5]) (by kernel_rfl) (by simp) (AllReady.cons rfl (fun K hK => ?_) AllReady.nil)
            go_simp
            refine (add_any n r1 (Wb.notB n g) true h2 _).mono ?_
            rintro e w6 ⟨rfl, hb6⟩
            refine hK _ _ ?_
            clear hK K
            have d0 := b0.below hb6 b0.lt
            have d1 := b1.below hb6 b1.lt
            have d2 := b2.below hb6 b2.lt
            have d3 := b3.below hb6 b3.lt
            have d4 := b4.below hb6 b4.lt
            have d5 := b5.below hb6 b5.lt
            have db := bb.trans (hb6.mono (by have := b0.lt; omega))
            clear b0 b1 b2 b3 b4 b5 bb hb6
            refine wpAny_ready (rs := [6]) (by kernel_rfl) (by simp) (AllReady.cons rfl (fun K hK => ?_) AllReady.nil)
            with_reducible refine step_store (.tmp 9) (.tmp 48) (g8 + 1) r1 (Wb.addB n r1 (Wb.notB n g) true) d5 rfl rfl rfl rfl ?_
            refine hK _ _ ?_
            clear hK K
            have x0 := d0.row_other (k := g8 + 1) (by omega) (bw (Wb.addB n r1 (Wb.notB n g) true))
            have x1 := d1.row_other (k := g8 + 1) (by omega) (bw (Wb.addB n r1 (Wb.notB n g) true))
            have x2 := d2.row_other (k := g8 + 1) (by omega) (bw (Wb.addB n r1 (Wb.notB n g) true))
            have x3 := d3.row_other (k := g8 + 1) (by omega) (bw (Wb.addB n r1 (Wb.notB n g) true))
            have x4 := d4.row_other (k := g8 + 1) (by omega) (bw (Wb.addB n r1 (Wb.notB n g) true))
            have x5 := d5.row_same (Wb.addB n r1 (Wb.notB n g) true)
            have xb := below_setRow db (show B ≤ g8 + 1 by omega) (bw (Wb.addB n r1 (Wb.notB n g) true))
            clear d0 d1 d2 d3 d4 d5 db
            refine wpAny_done (by kernel_rfl) ?_ _
            generalize w6.setRow (g8 + 1) (bw (Wb.addB n r1 (Wb.notB n g) true)) = w7 at *
            have c4 := x4.cell (j := k) (by omega)
            have z4 := x4.loose k
            simp only [Act.put, List.setIfInBounds_toArray, List.set_cons_zero, List.set_cons_succ]
            go_wp2
            go_roundw
            case rel => exact ⟨m + 1, by omega, congrArg (Value.int .i64) (by omega), x0.set_other (by omega) _ _, x1.set_other (by omega) _ _, x2.set_other (by omega) _ _, x3.set_other (by omega) _ _, by rw [HD.out]; exact x4.set_same k true, by rw [HD.out]; exact x5.set_other (by omega) _ _, xb.setCell (by show B ≤ g8; omega) _⟩
            case measure => (simp [intOf]; try omega)
          · go_simp
            refine (not_any n g h2 _).mono ?_
            rintro e w5 ⟨rfl, hb5⟩
            refine hK _ _ ?_
            clear hK K
            have b0 := a0.below hb5 a0.lt
            have b1 := a1.below hb5 a1.lt
            have b2 := a2.below hb5 a2.lt
            have b3 := a3.below hb5 a3.lt
            have b4 := a4.below hb5 a4.lt
            have b5 := a5.below hb5 a5.lt
            have bb := ab.trans (hb5.mono (by have := a0.lt; omega))
            clear a0 a1 a2 a3 a4 a5 ab hb5
            refine wpAny_ready (rs := [1]) (by kernel_rfl) (by simp) (AllReady.cons rfl (fun K hK => ?_) AllReady.nil)
            with_reducible refine step_load (.tmp 9) (g8 + 1) r1 b5 rfl rfl rfl ?_
            refine hK _ _ ?_
            clear hK K
            simp only [Act.put, List.setIfInBounds_toArray, List.set_cons_zero, List.set_cons_succ]
            refine wpAny_ready (rs := [5]) (by kernel_rfl) (by simp) (AllReady.cons rfl (fun K hK => ?_) AllReady.nil)
            go_simp
            refine (add_any n r1 (Wb.notB n g) true h2 _).mono ?_
            rintro e w6 ⟨rfl, hb6⟩
            refine hK _ _ ?_
            clear hK K
            have d0 := b0.below hb6 b0.lt
            have d1 := b1.below hb6 b1.lt
            have d2 := b2.below hb6 b2.lt
            have d3 := b3.below hb6 b3.lt
            have d4 := b4.below hb6 b4.lt
            have d5 := b5.below hb6 b5.lt
            have db := bb.trans (hb6.mono (by have := b0.lt; omega))
            clear b0 b1 b2 b3 b4 b5 bb hb6
            refine wpAny_ready (rs := [6]) (by kernel_rfl) (by simp) (AllReady.cons rfl (fun K hK => ?_) AllReady.nil)
            with_reducible refine step_store (.tmp 9) (.tmp 48) (g8 + 1) r1 (Wb.addB n r1 (Wb.notB n g) true) d5 rfl rfl rfl rfl ?_
            refine hK _ _ ?_
            clear hK K
            have x0 := d0.row_other (k := g8 + 1) (by omega) (bw (Wb.addB n r1 (Wb.notB n g) true))
            have x1 := d1.row_other (k := g8 + 1) (by omega) (bw (Wb.addB n r1 (Wb.notB n g) true))
            have x2 := d2.row_other (k := g8 + 1) (by omega) (bw (Wb.addB n r1 (Wb.notB n g) true))
            have x3 := d3.row_other (k := g8 + 1) (by omega) (bw (Wb.addB n r1 (Wb.notB n g) true))
            have x4 := d4.row_other (k := g8 + 1) (by omega) (bw (Wb.addB n r1 (Wb.notB n g) true))
            have x5 := d5.row_same (Wb.addB n r1 (Wb.notB n g) true)
            have xb := below_setRow db (show B ≤ g8 + 1 by omega) (bw (Wb.addB n r1 (Wb.notB n g) true))
            clear d0 d1 d2 d3 d4 d5 db
            refine wpAny_done (by kernel_rfl) ?_ _
            generalize w6.setRow (g8 + 1) (bw (Wb.addB n r1 (Wb.notB n g) true)) = w7 at *
            have c4 := x4.cell (j := k) (by omega)
            have z4 := x4.loose k
            simp only [Act.put, List.setIfInBounds_toArray, List.set_cons_zero, List.set_cons_succ]
            go_wp2
            go_roundw
            case rel => exact ⟨m + 1, by omega, congrArg (Value.int .i64) (by omega), x0.set_other (by omega) _ _, x1.set_other (by omega) _ _, x2.set_other (by omega) _ _, x3.set_other (by omega) _ _, by rw [HD.out]; exact x4.set_same k true, by rw [HD.out]; exact x5.set_other (by omega) _ _, xb.setCell (by show B ≤ g8; omega) _⟩
            case measure => (simp [intOf]; try omega)
    · obtain rfl : m = n := by omega
      obtain ⟨q, hq⟩ : ∃ q, (Wb.dv m f g m).1 = q := ⟨_, rfl⟩
      obtain ⟨r, hr⟩ : ∃ r, (Wb.dv m f g m).2 = r := ⟨_, rfl⟩
      rw [hq] at r4
      rw [hr] at r5
      have HQ := Lib.hid hq
      have HR := Lib.hid hr
      clear hq hr r0 r1
      go_wp2
      refine wp_region_any (by kernel_rfl) ?_
      change wpAny _ _ _ _ _ _ _ wr.drew
      have a2 : Row wr.drew (B + 1 + 1) off := r2
      have a3 : Row wr.drew (B + 1 + 1 + 1) off := r3
      have a4 : Row wr.drew g8 q := r4
      have a5 : Row wr.drew (g8 + 1) r := r5
      have ab : Below B w wr.drew := hb.drew
      clear r2 r3 r4 r5 hb
      generalize wr.drew = w4 at *
      refine wpAny_ready (rs := [0, 1]) (by kernel_rfl) (by simp) (AllReady.cons rfl (fun K hK => ?_) (AllReady.cons rfl (fun K hK => ?_) AllReady.nil))
      · with_reducible refine step_load (.tmp 8) g8 q a4 rfl rfl rfl ?_
        refine hK _ _ ?_
        clear hK K
        simp [Act.put]
        refine wpAny_ready (rs := [1, 2]) (by kernel_rfl) (by simp) (AllReady.cons rfl (fun K hK => ?_) (AllReady.cons rfl (fun K hK => ?_) AllReady.nil))
        · with_reducible refine step_load (.tmp 9) (g8 + 1) r a5 rfl rfl rfl ?_
          refine hK _ _ ?_
          clear hK K
          simp [Act.put]
          refine wpAny_ready (rs := [2]) (by kernel_rfl) (by simp) (AllReady.cons rfl (fun K hK => ?_) AllReady.nil)
          with_reducible refine step_store (.tmp 6) (.tmp 51) (B + 1 + 1) off q a2 rfl rfl rfl rfl ?_
          refine hK _ _ ?_
          clear hK K
          simp [Act.put]
          have b2 := a2.row_same q
          have b3 := a3.row_other (k := B + 1 + 1) (by omega) (bw q)
          have b5 := a5.row_other (k := B + 1 + 1) (by omega) (bw q)
          have bb := below_setRow ab (show B ≤ B + 1 + 1 by omega) (bw q)
          clear a2 a3 a5 ab
          generalize w4.setRow (B + 1 + 1) (bw q) = w5 at *
          refine wpAny_ready (rs := [3]) (by kernel_rfl) (by simp) (AllReady.cons rfl (fun K hK => ?_) AllReady.nil)
          with_reducible refine step_store (.tmp 7) (.tmp 52) (B + 1 + 1 + 1) off r b3 rfl rfl rfl rfl ?_
          refine hK _ _ ?_
          clear hK K
          simp [Act.put]
          have c2 := b2.row_other (k := B + 1 + 1 + 1) (by omega) (bw r)
          have c3 := b3.row_same r
          have cb := below_setRow bb (show B ≤ B + 1 + 1 + 1 by omega) (bw r)
          generalize w5.setRow (B + 1 + 1 + 1) (bw r) = w6 at *
          refine wpAny_done (by kernel_rfl) ?_ _
          clear a4 b2 b3 b5 bb
          go_wp2
          exact ret_rows (p := 6) (p' := 7) _ _ _ _ c2 c3 Try.results119 rfl rfl rfl ⟨by rw [HQ.out, HR.out], HB.out ▸ cb⟩
        · with_reducible refine step_store (.tmp 6) (.tmp 51) (B + 1 + 1) off q a2 rfl rfl rfl rfl ?_
          refine hK _ _ ?_
          clear hK K
          simp [Act.put]
          have b2 := a2.row_same q
          have b3 := a3.row_other (k := B + 1 + 1) (by omega) (bw q)
          have b5 := a5.row_other (k := B + 1 + 1) (by omega) (bw q)
          have bb := below_setRow ab (show B ≤ B + 1 + 1 by omega) (bw q)
          clear a2 a3 a5 ab
          generalize w4.setRow (B + 1 + 1) (bw q) = w5 at *
          refine wpAny_ready (rs := [1]) (by kernel_rfl) (by simp) (AllReady.cons rfl (fun K hK => ?_) AllReady.nil)
          with_reducible refine step_load (.tmp 9) (g8 + 1) r b5 rfl rfl rfl ?_
          refine hK _ _ ?_
          clear hK K
          simp [Act.put]
          refine wpAny_ready (rs := [3]) (by kernel_rfl) (by simp) (AllReady.cons rfl (fun K hK => ?_) AllReady.nil)
          with_reducible refine step_store (.tmp 7) (.tmp 52) (B + 1 + 1 + 1) off r b3 rfl rfl rfl rfl ?_
          refine hK _ _ ?_
          clear hK K
          simp [Act.put]
          have c2 := b2.row_other (k := B + 1 + 1 + 1) (by omega) (bw r)
          have c3 := b3.row_same r
          have cb := below_setRow bb (show B ≤ B + 1 + 1 + 1 by omega) (bw r)
          generalize w5.setRow (B + 1 + 1 + 1) (bw r) = w6 at *
          refine wpAny_done (by kernel_rfl) ?_ _
          clear a4 b2 b3 b5 bb
          go_wp2
          exact ret_rows (p := 6) (p' := 7) _ _ _ _ c2 c3 Try.results119 rfl rfl rfl ⟨by rw [HQ.out, HR.out], HB.out ▸ cb⟩
      · with_reducible refine step_load (.tmp 9) (g8 + 1) r a5 rfl rfl rfl ?_
        refine hK _ _ ?_
        clear hK K
        simp [Act.put]
        refine wpAny_ready (rs := [0]) (by kernel_rfl) (by simp) (AllReady.cons rfl (fun K hK => ?_) AllReady.nil)
        with_reducible refine step_load (.tmp 8) g8 q a4 rfl rfl rfl ?_
        refine hK _ _ ?_
        clear hK K
        simp [Act.put]
        refine wpAny_ready (rs := [2]) (by kernel_rfl) (by simp) (AllReady.cons rfl (fun K hK => ?_) AllReady.nil)
        with_reducible refine step_store (.tmp 6) (.tmp 51) (B + 1 + 1) off q a2 rfl rfl rfl rfl ?_
        refine hK _ _ ?_
        clear hK K
        simp [Act.put]
        have b2 := a2.row_same q
        have b3 := a3.row_other (k := B + 1 + 1) (by omega) (bw q)
        have b5 := a5.row_other (k := B + 1 + 1) (by omega) (bw q)
        have bb := below_setRow ab (show B ≤ B + 1 + 1 by omega) (bw q)
        clear a2 a3 a5 ab
        generalize w4.setRow (B + 1 + 1) (bw q) = w5 at *
        refine wpAny_ready (rs := [3]) (by kernel_rfl) (by simp) (AllReady.cons rfl (fun K hK => ?_) AllReady.nil)
        with_reducible refine step_store (.tmp 7) (.tmp 52) (B + 1 + 1 + 1) off r b3 rfl rfl rfl rfl ?_
        refine hK _ _ ?_
        clear hK K
        simp [Act.put]
        have c2 := b2.row_other (k := B + 1 + 1 + 1) (by omega) (bw r)
        have c3 := b3.row_same r
        have cb := below_setRow bb (show B ≤ B + 1 + 1 + 1 by omega) (bw r)
        generalize w5.setRow (B + 1 + 1 + 1) (bw r) = w6 at *
        refine wpAny_done (by kernel_rfl) ?_ _
        clear a4 b2 b3 b5 bb
        go_wp2
        exact ret_rows (p := 6) (p' := 7) _ _ _ _ c2 c3 Try.results119 rfl rfl rfl ⟨by rw [HQ.out, HR.out], HB.out ▸ cb⟩
end Go.Proofs.Ytdbcpnpcnkccaaa
namespace Go.Proofs.Ytdbcpnpcnkccaaa
set_option maxRecDepth 100000
open Go.RowKit

theorem built29 : Try.prog.built 161 [] = some (bw off) := by kernel_rfl

set_option maxHeartbeats 1000000 in
theorem div_nought (n : Nat) (f g : Nat → Bool) (h2 : n ≤ 64) (hg : Wb.val g 64 = 0) (w : World) :
    Calls Try.prog 119 #[.int .i64 n, .agg (bw f), .agg (bw g)] w fun e w' => e = .returned (.tuple #[.agg (bw (Wb.notB n off)), .agg (bw f)]) ∧ Below w.heap.size w w' := by
  have HG := Lib.hid hg
  clear hg
  go_enter Try.func119, Try.ntmps119
  go_upto_region 1 with (fail)
  rw [bw_zero]
  refine gen_world (S := fun W => Row W w.heap.size f ∧ Row W (w.heap.size + 1) g ∧ Row W (w.heap.size + 1 + 1) off ∧ Row W (w.heap.size + 1 + 1 + 1) off ∧ Below w.heap.size w W) ?_ ?_
  · exact ⟨(((Row.new w f).alloc _).alloc _).alloc _, ((Row.new_at (w.alloc _) g (by simp)).alloc _).alloc _, (Row.new_at ((w.alloc _).alloc _) off (by simp)).alloc _, Row.new_at (((w.alloc _).alloc _).alloc _) off (by simp), below_four⟩
  intro W ⟨r0, r1, r2, r3, hb⟩
  go_wp2_with (first
    | (with_reducible refine load_row (.tmp 5) _ _ r1 rfl rfl rfl ?_)
    | fail)
  refine (num_any g _).mono ?_
  rintro e w1 ⟨rfl, hb1⟩
  rw [HG.out]
  have q0 := r0.below hb1 r0.lt
  have q2 := r2.below hb1 r2.lt
  have q3 := r3.below hb1 r3.lt
  have qb := hb.trans (hb1.mono (by have := hb.size; omega))
  clear r0 r1 r2 r3 hb hb1
  go_wp2
  generalize hB : w.heap.size = B at *
  have HB := Lib.hid hB
  clear hB
  refine wp_region_any (by kernel_rfl) ?_
  change wpAny _ _ _ _ _ _ _ w1.drew
  have a0 : Row w1.drew B f := q0
  have a2 : Row w1.drew (B + 1 + 1) off := q2
  have a3 : Row w1.drew (B + 1 + 1 + 1) off := q3
  have ab : Below B w w1.drew := qb.drew
  clear q0 q2 q3 qb
  generalize w1.drew = w4 at *
  refine wpAny_take (i := 0) (v := .int .i64 n) rfl (by kernel_rfl) (by kernel_rfl) (by kernel_rfl) (fun _ _ _ h => h) (Or.inl ⟨by rfl, fun _ => rfl⟩) ?_
  refine wpAny_take (i := 1) (v := .agg (bw off)) rfl (by kernel_rfl) (by kernel_rfl) (by kernel_rfl) (fun _ _ _ h => h) (Or.inl ⟨by rfl, fun _ => by simp [execOp, run_build _ 161 #[] (bw off) built29]⟩) ?_
  simp [Act.put]
  refine wpAny_ready (rs := [2, 3]) (by kernel_rfl) (by simp) (AllReady.cons rfl (fun K hK => ?_) (AllReady.cons rfl (fun K hK => ?_) AllReady.nil))
  · go_simp
    refine (not_any n off h2 _).mono ?_
    rintro e w5 ⟨rfl, hb5⟩
    refine hK _ _ ?_
    clear hK K
    have b0 := a0.below hb5 a0.lt
    have b2 := a2.below hb5 a2.lt
    have b3 := a3.below hb5 a3.lt
    have bb := ab.trans (hb5.mono (by have := a0.lt; omega))
    clear a0 a2 a3 ab hb5
    refine wpAny_ready (rs := [3, 4]) (by kernel_rfl) (by simp) (AllReady.cons rfl (fun K hK => ?_) (AllReady.cons rfl (fun K hK => ?_) AllReady.nil))
    · with_reducible refine step_load (.tmp 4) B f b0 rfl rfl rfl ?_
      refine hK _ _ ?_
      clear hK K
      simp [Act.put]
      refine wpAny_ready (rs := [4]) (by kernel_rfl) (by simp) (AllReady.cons rfl (fun K hK => ?_) AllReady.nil)
      with_reducible refine step_store (.tmp 6) (.tmp 17) (B + 1 + 1) off (Wb.notB n off) b2 rfl rfl rfl rfl ?_
      refine hK _ _ ?_
      clear hK K
      simp [Act.put]
      have c2 := b2.row_same (Wb.notB n off)
      have c3 := b3.row_other (k := B + 1 + 1) (by omega) (bw (Wb.notB n off))
      have c0 := b0.row_other (k := B + 1 + 1) (by omega) (bw (Wb.notB n off))
      have cb := below_setRow bb (show B ≤ B + 1 + 1 by omega) (bw (Wb.notB n off))
      clear b0 b2 b3 bb
      generalize w5.setRow (B + 1 + 1) (bw (Wb.notB n off)) = w6 at *
      refine wpAny_ready (rs := [5]) (by kernel_rfl) (by simp) (AllReady.cons rfl (fun K hK => ?_) AllReady.nil)
      with_reducible refine step_store (.tmp 7) (.tmp 18) (B + 1 + 1 + 1) off f c3 rfl rfl rfl rfl ?_
      refine hK _ _ ?_
      clear hK K
      simp [Act.put]
      have d2 := c2.row_other (k := B + 1 + 1 + 1) (by omega) (bw f)
      have d3 := c3.row_same f
      have db := below_setRow cb (show B ≤ B + 1 + 1 + 1 by omega) (bw f)
      generalize w6.setRow (B + 1 + 1 + 1) (bw f) = w7 at *
      refine wpAny_done (by kernel_rfl) ?_ _
      clear c0 c2 c3 cb
      go_wp2
      exact ret_rows (p := 6) (p' := 7) _ _ _ _ d2 d3 Try.results119 rfl rfl rfl ⟨rfl, HB.out ▸ db⟩
    · with_reducible refine step_store (.tmp 6) (.tmp 17) (B + 1 + 1) off (Wb.notB n off) b2 rfl rfl rfl rfl ?_
      refine hK _ _ ?_
      clear hK K
      simp [Act.put]
      have c2 := b2.row_same (Wb.notB n off)
      have c3 := b3.row_other (k := B + 1 + 1) (by omega) (bw (Wb.notB n off))
      have c0 := b0.row_other (k := B + 1 + 1) (by omega) (bw (Wb.notB n off))
      have cb := below_setRow bb (show B ≤ B + 1 + 1 by omega) (bw (Wb.notB n off))
      clear b0 b2 b3 bb
      generalize w5.setRow (B + 1 + 1) (bw (Wb.notB n off)) = w6 at *
      refine wpAny_ready (rs := [3]) (by kernel_rfl) (by simp) (AllReady.cons rfl (fun K hK => ?_) AllReady.nil)
      with_reducible refine step_load (.tmp 4) B f c0 rfl rfl rfl ?_
      refine hK _ _ ?_
      clear hK K
      simp [Act.put]
      refine wpAny_ready (rs := [5]) (by kernel_rfl) (by simp) (AllReady.cons rfl (fun K hK => ?_) AllReady.nil)
      with_reducible refine step_store (.tmp 7) (.tmp 18) (B + 1 + 1 + 1) off f c3 rfl rfl rfl rfl ?_
      refine hK _ _ ?_
      clear hK K
      simp [Act.put]
      have d2 := c2.row_other (k := B + 1 + 1 + 1) (by omega) (bw f)
      have d3 := c3.row_same f
      have db := below_setRow cb (show B ≤ B + 1 + 1 + 1 by omega) (bw f)
      generalize w6.setRow (B + 1 + 1 + 1) (bw f) = w7 at *
      refine wpAny_done (by kernel_rfl) ?_ _
      clear c0 c2 c3 cb
      go_wp2
      exact ret_rows (p := 6) (p' := 7) _ _ _ _ d2 d3 Try.results119 rfl rfl rfl ⟨rfl, HB.out ▸ db⟩
  · with_reducible refine step_load (.tmp 4) B f a0 rfl rfl rfl ?_
    refine hK _ _ ?_
    clear hK K
    simp [Act.put]
    refine wpAny_ready (rs := [2]) (by kernel_rfl) (by simp) (AllReady.cons rfl (fun K hK => ?_) AllReady.nil)
    go_simp
    refine (not_any n off h2 _).mono ?_
    rintro e w5 ⟨rfl, hb5⟩
    refine hK _ _ ?_
    clear hK K
    have b0 := a0.below hb5 a0.lt
    have b2 := a2.below hb5 a2.lt
    have b3 := a3.below hb5 a3.lt
    have bb := ab.trans (hb5.mono (by have := a0.lt; omega))
    clear a0 a2 a3 ab hb5
    refine wpAny_ready (rs := [4]) (by kernel_rfl) (by simp) (AllReady.cons rfl (fun K hK => ?_) AllReady.nil)
    with_reducible refine step_store (.tmp 6) (.tmp 17) (B + 1 + 1) off (Wb.notB n off) b2 rfl rfl rfl rfl ?_
    refine hK _ _ ?_
    clear hK K
    simp [Act.put]
    have c2 := b2.row_same (Wb.notB n off)
    have c3 := b3.row_other (k := B + 1 + 1) (by omega) (bw (Wb.notB n off))
    have c0 := b0.row_other (k := B + 1 + 1) (by omega) (bw (Wb.notB n off))
    have cb := below_setRow bb (show B ≤ B + 1 + 1 by omega) (bw (Wb.notB n off))
    clear b0 b2 b3 bb
    generalize w5.setRow (B + 1 + 1) (bw (Wb.notB n off)) = w6 at *
    refine wpAny_ready (rs := [5]) (by kernel_rfl) (by simp) (AllReady.cons rfl (fun K hK => ?_) AllReady.nil)
    with_reducible refine step_store (.tmp 7) (.tmp 18) (B + 1 + 1 + 1) off f c3 rfl rfl rfl rfl ?_
    refine hK _ _ ?_
    clear hK K
    simp [Act.put]
    have d2 := c2.row_other (k := B + 1 + 1 + 1) (by omega) (bw f)
    have d3 := c3.row_same f
    have db := below_setRow cb (show B ≤ B + 1 + 1 + 1 by omega) (bw f)
    generalize w6.setRow (B + 1 + 1 + 1) (bw f) = w7 at *
    refine wpAny_done (by kernel_rfl) ?_ _
    clear c0 c2 c3 cb
    go_wp2
    exact ret_rows (p := 6) (p' := 7) _ _ _ _ d2 d3 Try.results119 rfl rfl rfl ⟨rfl, HB.out ▸ db⟩

namespace Wb
/-- The number with its sign, from the top down. -/
def sg (n : Nat) (f : Nat → Bool) : Nat → Int
  | 0 => if f (n - 1) then -1 else 0
  | m + 1 => sg n f m * 2 + (if f (n - 1 - m) then 1 else 0)
theorem sg_val (n : Nat) (f : Nat → Bool) : ∀ m, m ≤ n → sg n f m * ((2 ^ (n - m) : Nat) : Int) + (val f (n - m) : Nat) = (val f n : Nat) - (if f (n - 1) then ((2 ^ n : Nat) : Int) else 0)
  | 0, _ => by
    rw [sg, Nat.sub_zero]; split <;> omega
  | m + 1, h => by
    have ih := sg_val n f m (by omega)
    rw [← ih, sg, show n - m = (n - 1 - m) + 1 from by omega, val, show n - (m + 1) = n - 1 - m from by omega, Nat.pow_succ]
    generalize 2 ^ (n - 1 - m) = p
    rw [Int.add_mul, Int.mul_assoc]
    split
    · push_cast; rw [Int.mul_comm (p : Int) 2, Int.one_mul]; omega
    · push_cast; rw [Int.mul_comm (p : Int) 2, Int.zero_mul]; omega
theorem sg_bd (n : Nat) (f : Nat → Bool) : ∀ m, -((2 ^ m : Nat) : Int) ≤ sg n f (m + 1) ∧ sg n f (m + 1) < ((2 ^ m : Nat) : Int)
  | 0 => by
    rw [sg, sg]; simp; split <;> simp
  | m + 1 => by
    have ih := sg_bd n f m
    rw [sg, Nat.pow_succ]
    generalize 2 ^ m = p at *
    split <;> (push_cast; omega)
theorem sg_in (n : Nat) (f : Nat → Bool) (m : Nat) (h : m < 64) : -4611686018427387904 ≤ sg n f m ∧ sg n f m < 4611686018427387904 := by
  cases m with
  | zero => rw [sg]; split <;> omega
  | succ m =>
    have h1 := sg_bd n f m
    have h2 : 2 ^ m ≤ 2 ^ 62 := Nat.pow_le_pow_right (by decide) (by omega)
    omega
end Wb

end Go.Proofs.Ytdbcpnpcnkccaaa
namespace Go.Proofs.Ytdbcpnpcnkccaaa
set_option maxRecDepth 100000
open Go.RowKit

theorem zero29 (w : World) : (zeroValue 161).run Try.prog w = .ok (.agg (bw off)) w := (Try.zeroValue161 w).trans (by rw [bw_zero])
/-- A new row, all off. -/
theorem alloc_row {ops : Array Oper} {rest : List Oper} {o : Oper} {a : Act} {w : World} {Q : Exit → Act → World → Prop} (hgd : o.guard = none) (ho : o.op = .alloc 161)
    (h : wpList Try.prog ops Q rest (a.put o.dst (.pointer (some ⟨w.heap.size, 0, none⟩))) (w.alloc (.cells (bw off) 161))) : wpList Try.prog ops Q (o :: rest) a w :=
  wpList_plain hgd fun K hK => by
    have := hK _ _ h
    unfold Oper.wp execOp
    simp [ho, Instr.alloc, zero29, newVar, newRow, Value.cells, go_sem]
    exact this

theorem alloc_row_at {ops : Array Oper} {rest : List Oper} {o : Oper} {a : Act} {w : World} {Q : Exit → Act → World → Prop} (g : Nat) (hg : w.heap.size = g) (hgd : o.guard = none) (ho : o.op = .alloc 161)
    (h : wpList Try.prog ops Q rest (a.put o.dst (.pointer (some ⟨g, 0, none⟩))) (w.alloc (.cells (bw off) 161))) : wpList Try.prog ops Q (o :: rest) a w := by
  subst hg; exact alloc_row hgd ho h

theorem build_row {ops : Array Oper} {rest : List Oper} {o : Oper} {a : Act} {w : World} {Q : Exit → Act → World → Prop} (hgd : o.guard = none) (ho : o.op = .build 161 #[])
    (h : wpList Try.prog ops Q rest (a.put o.dst (.agg (bw off))) w) : wpList Try.prog ops Q (o :: rest) a w :=
  wpList_plain hgd fun K hK => by
    have := hK _ _ h
    unfold Oper.wp execOp
    simp [ho, run_build _ 161 #[] (bw off) built29]
    exact this

namespace Wb
def qr (n : Nat) (f g : Nat → Bool) : (Nat → Bool) × (Nat → Bool) := if val g 64 = 0 then (notB n off, f) else dv n f g n
end Wb
theorem rdiv_any (n : Nat) (f g : Nat → Bool) (h1 : 1 ≤ n) (h2 : n ≤ 64) (w : World) :
    Calls Try.prog 119 #[.int .i64 n, .agg (bw f), .agg (bw g)] w fun e w' => e = .returned (.tuple #[.agg (bw (Wb.qr n f g).1), .agg (bw (Wb.qr n f g).2)]) ∧ Below w.heap.size w w' := by
  by_cases h : Wb.val g 64 = 0
  · have e : Wb.qr n f g = (Wb.notB n off, f) := if_pos h
    rw [e]; exact div_nought n f g h2 h w
  · have e : Wb.qr n f g = Wb.dv n f g n := if_neg h
    rw [e]; exact div_pos n f g h1 h2 h w

/-! ### two rows held against each other -/
theorem run_part_bool (f : Nat → Bool) (i : Nat) (h : i < 64) (w : World) : (part 4 (bw f) (i * 1)).run Try.prog w = .ok (.bool (f i)) w := by
  rw [Nat.mul_one]
  have hs : (isAgg 4).run Try.prog w = .ok false w := by unfold isAgg; rw [Sem.run_bind, run_underlying Try.underlying4 w]; rfl
  simp [part, hs, bw_get f i h]
theorem run_eqItems_bits (f g : Nat → Bool) (d : Nat) (w : World) : ∀ is : List Nat, (∀ i ∈ is, i < 64) → (Op.eqItems (d + 1) 4 1 (bw f) (bw g) is).run Try.prog w = .ok (is.all fun i => f i == g i) w
  | [], _ => by simp [Op.eqItems]
  | i :: is, h => by
    have ih := run_eqItems_bits f g d w is (fun j hj => h j (List.mem_cons_of_mem _ hj))
    simp only [Op.eqItems, Sem.run_bind, run_part_bool f i (h i (List.mem_cons_self ..)), run_part_bool g i (h i (List.mem_cons_self ..)), Result.andThen_ok, run_equalIn_bool' w d 4 (f i) (g i) Try.underlying4]
    cases hfg : (f i == g i) <;> simp [hfg, ih]
theorem run_eq_rows (f g : Nat → Bool) (w : World) : (Op.equalIn 10000 161 (.agg (bw f)) (.agg (bw g))).run Try.prog w = .ok ((List.range 64).all fun i => f i == g i) w := by
  have hc : Try.prog.cellsOf 4 = 1 := by kernel_rfl
  have hs : (Try.prog.info? 4).isSome = true := by kernel_rfl
  have hi := Option.isSome_iff_exists.1 hs
  obtain ⟨i, hi⟩ := hi
  have := run_equalIn_array (P := Try.prog) (w := w) 9999 (bw f) (bw g) Try.underlying161 hi
  rw [this, hc]
  exact run_eqItems_bits f g 9998 w _ (fun j hj => by simpa using hj)
end Go.Proofs.Ytdbcpnpcnkccaaa
