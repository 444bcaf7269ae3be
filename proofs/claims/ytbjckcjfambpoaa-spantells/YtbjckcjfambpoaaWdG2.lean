/-
  The contract of the reference's Div.
  The contract of the reference's Div where the divisor is nought; Sign, Mask.
  The contract of the reference's Sign and Mask.
  The contract of the reference's Apply.
  The contract of the reference's Apply: the difference, the order by signs.
  Plain arithmetic: what the bit-by-bit answers of the reference come to, as numbers.
  Plain arithmetic: the reference's answers are the words' own.
  The contracts of the reference's Apply, Sign, Mask, Of and Num, in the words' own numbers.
-/
import Derived.Test.YtbjckcjfambpoaaWdG1
import Derived.StillTailTactics
import Derived.Test.YtbjckcjfambpoaaWdPlain2
set_option linter.unusedSimpArgs false
set_option linter.unusedVariables false
namespace Go.Proofs.Ytbjckcjfambpoaa
set_option linter.unusedSimpArgs false
set_option linter.unusedVariables false
set_option maxRecDepth 100000
open Go.RowKit

namespace Wb
def dv (n : Nat) (f g : Nat → Bool) : Nat → (Nat → Bool) × (Nat → Bool)
  | 0 => (off, off)
  | m + 1 =>
    if (dv n f g m).2 (n - 1) || !decide (val (upB n (dv n f g m).2 (f (n - 1 - m))) n < val g n) then (upd (dv n f g m).1 (n - 1 - m) true, addB n (upB n (dv n f g m).2 (f (n - 1 - m))) (notB n g) true)
    else ((dv n f g m).1, upB n (dv n f g m).2 (f (n - 1 - m)))
end Wb

/-- In a region that draws its order: a row is loaded whole. -/
theorem still_load_row {ops : Array Oper} {rest : List Oper} {o : Oper} {a : Act} {w : World} {Q : Act → Prop} (x : Operand) (g : Nat) (f : Nat → Bool) (hr : Row w g f) (hgd : o.guard = none) (ho : o.op = .load 62 x)
    (hx : a.eval x = .pointer (some ⟨g, 0, none⟩)) (h : wpStill Try.prog ops w Q rest (a.put o.dst (.agg (bw f)))) : wpStill Try.prog ops w Q (o :: rest) a := by
  refine wpStill_step (fun K hK => ?_)
  have hw : Region.wanted o (yielded ops a.tmps) = true := by simp [Region.wanted, hgd]
  rw [if_pos hw]
  unfold Oper.still execOp
  simp only [ho, hx, Instr.loadAt, Instr.sureAddr, Sem.run_bind, Sem.run_pure, Result.andThen_ok, run_loadVar_row w g 62 62 (bw f) (0, 0) _ hr Try.underlying62 rfl (size29 f)]
  exact ⟨rfl, hK _ h⟩

/-- A guarded load of a row, where the guard lets it. -/
theorem load_row_want {ops : Array Oper} {rest : List Oper} {o : Oper} {a : Act} {w : World} {Q : Exit → Act → World → Prop} (x : Operand) (g : Nat) (f : Nat → Bool) (hr : Row w g f) (hw : Region.wanted o (yielded ops a.tmps) = true) (ho : o.op = .load 62 x)
    (hx : a.eval x = .pointer (some ⟨g, 0, none⟩)) (h : wpList Try.prog ops Q rest (a.put o.dst (.agg (bw f))) w) : wpList Try.prog ops Q (o :: rest) a w :=
  wpList_step fun K hK => by
    rw [if_pos hw]
    exact wp_load_row 62 x ho g hx 62 (bw f) (0, 0) _ hr Try.underlying62 rfl (size29 f) (hK _ _ h)
/-- The step of a region that draws its order: a row is loaded, a row is stored. -/
theorem step_load {ops : Array Oper} {o : Oper} {a : Act} {w : World} {K : Act → World → Prop} {Q : Exit → Act → World → Prop} {E : Prop} (x : Operand) (g : Nat) (f : Nat → Bool) (hr : Row w g f) (hgd : o.guard = none) (ho : o.op = .load 62 x)
    (hx : a.eval x = .pointer (some ⟨g, 0, none⟩)) (h : K (a.put o.dst (.agg (bw f))) w) : if Region.wanted o (yielded ops a.tmps) = true then Oper.wp Try.prog o a w K Q else E := by
  rw [if_pos (by simp [Region.wanted, hgd])]
  exact wp_load_row 62 x ho g hx 62 (bw f) (0, 0) _ hr Try.underlying62 rfl (size29 f) h
theorem step_store {ops : Array Oper} {o : Oper} {a : Act} {w : World} {K : Act → World → Prop} {Q : Exit → Act → World → Prop} {E : Prop} (x y : Operand) (g : Nat) (f k : Nat → Bool) (hr : Row w g f) (hgd : o.guard = none) (ho : o.op = .store 62 x y)
    (hx : a.eval x = .pointer (some ⟨g, 0, none⟩)) (hy : a.eval y = .agg (bw k)) (h : K (a.put o.dst undef) (w.setRow g (bw k))) : if Region.wanted o (yielded ops a.tmps) = true then Oper.wp Try.prog o a w K Q else E := by
  rw [if_pos (by simp [Region.wanted, hgd])]
  exact wp_store_row 62 x y ho g (bw k) hx hy 62 (bw f) hr (size29 k) (by rw [bw_size, bw_size]) (bw_one k) h

theorem ret_rows {fn : Func} {p p' : Tmp} {R : Ending → World → Prop} {a : Act} {w : World} (g h : Nat) (f k : Nat → Bool) (hr : Row w g f) (hs : Row w h k) (hf : fn.results = #[.cell p 62, .cell p' 62]) (hd : a.defers = []) (hp : a.tmps.getD p undef = .pointer (some ⟨g, 0, none⟩)) (hq : a.tmps.getD p' undef = .pointer (some ⟨h, 0, none⟩)) (hR : R (.returned (.tuple #[.agg (bw f), .agg (bw k)])) w) :
    bodyPost Try.prog fn R .ret a w := by
  refine bodyPost_ret ?_ hd hR
  have hp' : a.tmps[p]?.getD undef = .pointer (some ⟨g, 0, none⟩) := by simpa using hp
  have hq' : a.tmps[p']?.getD undef = .pointer (some ⟨h, 0, none⟩) := by simpa using hq
  simp [results, hf, hp', hq', asAddr, run_loadVar_row w g 62 62 (bw f) (0, 0) _ hr Try.underlying62 rfl (size29 f), run_loadVar_row w h 62 62 (bw k) (0, 0) _ hs Try.underlying62 rfl (size29 k)]

set_option maxHeartbeats 3000000 in
theorem div_pos (n : Nat) (f g : Nat → Bool) (h1 : 1 ≤ n) (h2 : n ≤ 64) (hg : Wb.val g 64 ≠ 0) (w : World) :
    Calls Try.prog 69 #[.int .i64 n, .agg (bw f), .agg (bw g)] w fun e w' => e = .returned (.tuple #[.agg (bw (Wb.dv n f g n).1), .agg (bw (Wb.dv n f g n).2)]) ∧ Below w.heap.size w w' := by
  have hv : (((Wb.val g 64 : Nat) : Int) == 0) = false := by simp; omega
  have hv' : (Wb.val g 64 == 0) = false := by simp; omega
  go_enter Try.func69, Try.ntmps69
  go_upto_region 1 with (fail)
  rw [bw_zero]
  refine gen_world (S := fun W => Row W w.heap.size f ∧ Row W (w.heap.size + 1) g ∧ Row W (w.heap.size + 1 + 1) off ∧ Row W (w.heap.size + 1 + 1 + 1) off ∧ Below w.heap.size w W) ?_ ?_
  · exact ⟨(((Row.new w f).alloc _).alloc _).alloc _, ((Row.new_at (w.alloc _) g (by simp)).alloc _).alloc _, (Row.new_at ((w.alloc _).alloc _) off (by simp)).alloc _, Row.new_at (((w.alloc _).alloc _).alloc _) off (by simp), below_four⟩
  intro W ⟨r0, r1, r2, r3, hb⟩
  go_wp2_with (first
    | (with_reducible refine load_row (.tmp 5) _ _ r1 rfl rfl rfl ?_)
    | fail)
  refine (num_any g _).mono ?_
  rintro e w1 ⟨rfl, hb1⟩
  go_wp2
  rw [bw_zero]
  refine gen_world (S := fun V => Row V w.heap.size f ∧ Row V (w.heap.size + 1) g ∧ Row V (w.heap.size + 1 + 1) off ∧ Row V (w.heap.size + 1 + 1 + 1) off ∧ Row V w1.heap.size off ∧ Row V (w1.heap.size + 1) off ∧ Below w.heap.size w V) ?_ ?_
  · have hs := hb.size
    have hs1 := hb1.size
    exact ⟨((r0.below hb1 r0.lt).alloc _).alloc _, ((r1.below hb1 r1.lt).alloc _).alloc _, ((r2.below hb1 r2.lt).alloc _).alloc _, ((r3.below hb1 r3.lt).alloc _).alloc _, (Row.new w1 off).alloc _, Row.new_at (w1.alloc _) off (by simp), ((hb.trans (hb1.mono hs)).alloc (by omega) _).alloc (by simp; omega) _⟩
  have g1 : w.heap.size + 1 + 1 + 1 < w1.heap.size := by have := r3.lt; have := hb1.size; omega
  clear r0 r1 r2 r3 hb hb1
  intro V ⟨r0, r1, r2, r3, r4, r5, hb⟩
  generalize w1.heap.size = g8 at *
  generalize hB : w.heap.size = B at *
  have HB := Lib.hid hB
  clear hB
  go_loopw [10] (fun i V => ∃ m : Nat, m ≤ n ∧ i = .int .i64 ((n : Int) - 1 - m) ∧ Row V B f ∧ Row V (B + 1) g ∧ Row V (B + 1 + 1) off ∧ Row V (B + 1 + 1 + 1) off ∧ Row V g8 (Wb.dv n f g m).1 ∧ Row V (g8 + 1) (Wb.dv n f g m).2 ∧ Below B w V) (fun i _ => (intOf i + 1).toNat)
  case atStart => exact ⟨0, Nat.zero_le _, congrArg (Value.int .i64) (by omega), r0, r1, r2, r3, r4, r5, hb⟩
  case round =>
    clear r0 r1 r2 r3 r4 r5 hb V
    obtain ⟨m, hm, rfl, r0, r1, r2, r3, r4, r5, hb⟩ := hrel
    by_cases hlt : m < n
    · have hi : ((n : Int) - 1 - m) = ((n - 1 - m : Nat) : Int) := by omega
      rw [hi]
      clear hi
      have hdv : Wb.dv n f g (m + 1) = if (Wb.dv n f g m).2 (n - 1) || !decide (Wb.val (Wb.upB n (Wb.dv n f g m).2 (f (n - 1 - m))) n < Wb.val g n) then (upd (Wb.dv n f g m).1 (n - 1 - m) true, Wb.addB n (Wb.upB n (Wb.dv n f g m).2 (f (n - 1 - m))) (Wb.notB n g) true) else ((Wb.dv n f g m).1, Wb.upB n (Wb.dv n f g m).2 (f (n - 1 - m))) := rfl
      generalize (Wb.dv n f g m).1 = q at *
      generalize (Wb.dv n f g m).2 = r at *
      have hk : n - 1 - m < n := by omega
      have hk' : n - 1 - m + m + 1 = n := by omega
      generalize n - 1 - m = k at *
      have hk64 : (k : Int) < 64 := by omega
      have HDV := Lib.hid hdv
      clear hdv
      have c0 := r0.cell (j := k) (by omega)
      have c5 := r5.cell (j := n - 1) (by omega)
      have hc1 : ((n : Int) - 1).toNat = n - 1 := by omega
      have hc2 : 0 ≤ (n : Int) - 1 := by omega
      have hc3 : (n : Int) - 1 < 64 := by omega
      go_wp2
      refine wp_region_still_tail 5 (by kernel_rfl) (by kernel_rfl) ?_
      simp only [List.take_succ_cons, List.take_zero, List.drop_succ_cons, List.drop_zero]
      change wpStill _ _ wr.drew (fun a' => wpList _ _ _ _ a' wr.drew) _ _
      still_step
      refine still_load_row (.tmp 9) (g8 + 1) r r5 rfl rfl rfl ?_
      still_step
      still_step
      still_step
      refine wpStill_nil ?_
      have d0 : Row wr.drew B f := r0
      have d1 : Row wr.drew (B + 1) g := r1
      have d2 : Row wr.drew (B + 1 + 1) off := r2
      have d3 : Row wr.drew (B + 1 + 1 + 1) off := r3
      have d4 : Row wr.drew g8 q := r4
      have d5 : Row wr.drew (g8 + 1) r := r5
      have db : Below B w wr.drew := hb.drew
      clear r0 r1 r2 r3 r4 r5 hb c0 c5
      generalize wr.drew = wd at *
      go_wp2_with fail
      refine (up_any n _ _ h1 h2 _).mono ?_
      rintro e w2 ⟨rfl, hb2⟩
      have q5 := (d5.below hb2 d5.lt)
      have e0 := (d0.below hb2 d0.lt).row_other (k := g8 + 1) (by omega) (bw (Wb.upB n r (f k)))
      have e1 := (d1.below hb2 d1.lt).row_other (k := g8 + 1) (by omega) (bw (Wb.upB n r (f k)))
      have e2 := (d2.below hb2 d2.lt).row_other (k := g8 + 1) (by omega) (bw (Wb.upB n r (f k)))
      have e3 := (d3.below hb2 d3.lt).row_other (k := g8 + 1) (by omega) (bw (Wb.upB n r (f k)))
      have e4 := (d4.below hb2 d4.lt).row_other (k := g8 + 1) (by omega) (bw (Wb.upB n r (f k)))
      have e5 := q5.row_same (Wb.upB n r (f k))
      have eb : Below B w (w2.setRow (g8 + 1) (bw (Wb.upB n r (f k)))) := below_setRow (db.trans (hb2.mono (by have := d0.lt; omega))) (by omega) _
      clear d0 d1 d2 d3 d4 d5 db hb2
      go_upto_region 9 with (first
        | (with_reducible refine store_row (.tmp 9) (.tmp 34) _ _ _ q5 rfl rfl rfl rfl ?_)
        | fail)
      clear q5
      generalize w2.setRow (g8 + 1) (bw (Wb.upB n r (f k))) = w3 at *
      generalize hr1 : Wb.upB n r (f k) = r1 at *
      clear hr1
      generalize r (n - 1) = ov at *
      cases ov
      · by_cases hl : Wb.val r1 n < Wb.val g n
        · have HD := Lib.hid (show Wb.dv n f g (m + 1) = (q, r1) by rw [HDV.out]; simp [hl])
          go_wp2_with (first
            | ((with_reducible refine load_row_want (.tmp 9) _ _ e5 ?_ rfl rfl ?_); (· rfl))
            | ((with_reducible refine load_row_want (.tmp 5) _ _ e1 ?_ rfl rfl ?_); (· rfl))
            | fail)
          refine (less_any' n _ _ h2 _).mono ?_
          rintro e w4 ⟨rfl, hb4⟩
          go_wp2
          go_roundw
          case rel => exact ⟨m + 1, by omega, congrArg (Value.int .i64) (by omega), e0.below hb4 e0.lt, e1.below hb4 e1.lt, e2.below hb4 e2.lt, e3.below hb4 e3.lt, by rw [HD.out]; exact e4.below hb4 e4.lt, by rw [HD.out]; exact e5.below hb4 e5.lt, eb.trans (hb4.mono (by have := e0.lt; omega))⟩
          case measure => (simp [intOf]; try omega)
        · have HD := Lib.hid (show Wb.dv n f g (m + 1) = (upd q k true, Wb.addB n r1 (Wb.notB n g) true) by rw [HDV.out]; simp [hl])
          have hl' : decide (Wb.val r1 n < Wb.val g n) = false := by simpa using hl
          go_wp2_with (first
            | ((with_reducible refine load_row_want (.tmp 9) _ _ e5 ?_ rfl rfl ?_); (· rfl))
            | ((with_reducible refine load_row_want (.tmp 5) _ _ e1 ?_ rfl rfl ?_); (· rfl))
            | fail)
          refine (less_any' n _ _ h2 _).mono ?_
          rintro e w4 ⟨rfl, hb4⟩
          have k0 := e0.below hb4 e0.lt
          have k1 := e1.below hb4 e1.lt
          have k2 := e2.below hb4 e2.lt
          have k3 := e3.below hb4 e3.lt
          have k4 := e4.below hb4 e4.lt
          have k5 := e5.below hb4 e5.lt
          have kb := eb.trans (hb4.mono (by have := e0.lt; omega))
          clear e0 e1 e2 e3 e4 e5 eb hb4
          go_wp2
          refine wp_region_any (by kernel_rfl) ?_
          change wpAny _ _ _ _ _ _ _ w4.drew
          have a0 : Row w4.drew B f := k0
          have a1 : Row w4.drew (B + 1) g := k1
          have a2 : Row w4.drew (B + 1 + 1) off := k2
          have a3 : Row w4.drew (B + 1 + 1 + 1) off := k3
          have a4 : Row w4.drew g8 q := k4
          have a5 : Row w4.drew (g8 + 1) r1 := k5
          have ab : Below B w w4.drew := kb.drew
          clear k0 k1 k2 k3 k4 k5 kb
          generalize w4.drew = w40 at *
          refine wpAny_take (i := 0) (v := .int .i64 n) rfl (by kernel_rfl) (by kernel_rfl) (by kernel_rfl) (fun _ _ _ h => h) (Or.inl ⟨by rfl, fun _ => rfl⟩) ?_
          refine wpAny_take (i := 2) (v := .int .i64 n) rfl (by kernel_rfl) (by kernel_rfl) (by kernel_rfl) (fun _ _ _ h => h) (Or.inl ⟨by rfl, fun _ => rfl⟩) ?_
          simp only [Act.put, List.setIfInBounds_toArray, List.set_cons_zero, List.set_cons_succ]
          refine wpAny_ready (rs := [1, 3]) (by kernel_rfl) (by simp) (AllReady.cons rfl (fun K hK => ?_) (AllReady.cons rfl (fun K hK => ?_) AllReady.nil))
          · with_reducible refine step_load (.tmp 9) (g8 + 1) r1 a5 rfl rfl rfl ?_
            refine hK _ _ ?_
            clear hK K
            simp only [Act.put, List.setIfInBounds_toArray, List.set_cons_zero, List.set_cons_succ]
            refine wpAny_ready (rs := [3]) (by kernel_rfl) (by simp) (AllReady.cons rfl (fun K hK => ?_) AllReady.nil)
            with_reducible refine step_load (.tmp 5) (B + 1) g a1 rfl rfl rfl ?_
            refine hK _ _ ?_
            clear hK K
            simp only [Act.put, List.setIfInBounds_toArray, List.set_cons_zero, List.set_cons_succ]
            refine wpAny_ready (rs := [4]) (by kernel_rfl) (by simp) (AllReady.cons rfl (fun K hK => ?_) AllReady.nil)
            go_simp
            refine (not_any n g h2 _).mono ?_
            rintro e w5 ⟨rfl, hb5⟩
            refine hK _ _ ?_
            clear hK K
            have b0 := a0.below hb5 a0.lt
            have b1 := a1.below hb5 a1.lt
            have b2 := a2.below hb5 a2.lt
            have b3 := a3.below hb5 a3.lt
            have b4 := a4.below hb5 a4.lt
            have b5 := a5.below hb5 a5.lt
            have bb := ab.trans (hb5.mono (by have := a0.lt; omega))
            clear a0 a1 a2 a3 a4 a5 ab hb5
            refine wpAny_ready (rs := [5]) (by kernel_rfl) (by simp) (AllReady.cons rfl (fun K hK => ?_) AllReady.nil)
            go_simp
            refine (add_any n r1 (Wb.notB n g) true h2 _).mono ?_
            rintro e w6 ⟨rfl, hb6⟩
            refine hK _ _ ?_
            clear hK K
            have d0 := b0.below hb6 b0.lt
            have d1 := b1.below hb6 b1.lt
            have d2 := b2.below hb6 b2.lt
            have d3 := b3.below hb6 b3.lt
            have d4 := b4.below hb6 b4.lt
            have d5 := b5.below hb6 b5.lt
            have db := bb.trans (hb6.mono (by have := b0.lt; omega))
            clear b0 b1 b2 b3 b4 b5 bb hb6
            refine wpAny_ready (rs := [6]) (by kernel_rfl) (by simp) (AllReady.cons rfl (fun K hK => ?_) AllReady.nil)
            with_reducible refine step_store (.tmp 9) (.tmp 48) (g8 + 1) r1 (Wb.addB n r1 (Wb.notB n g) true) d5 rfl rfl rfl rfl ?_
            refine hK _ _ ?_
            clear hK K
            have x0 := d0.row_other (k := g8 + 1) (by omega) (bw (Wb.addB n r1 (Wb.notB n g) true))
            have x1 := d1.row_other (k := g8 + 1) (by omega) (bw (Wb.addB n r1 (Wb.notB n g) true))
            have x2 := d2.row_other (k := g8 + 1) (by omega) (bw (Wb.addB n r1 (Wb.notB n g) true))
            have x3 := d3.row_other (k := g8 + 1) (by omega) (bw (Wb.addB n r1 (Wb.notB n g) true))
            have x4 := d4.row_other (k := g8 + 1) (by omega) (bw (Wb.addB n r1 (Wb.notB n g) true))
            have x5 := d5.row_same (Wb.addB n r1 (Wb.notB n g) true)
            have xb := below_setRow db (show B ≤ g8 + 1 by omega) (bw (Wb.addB n r1 (Wb.notB n g) true))
            clear d0 d1 d2 d3 d4 d5 db
            refine wpAny_done (by kernel_rfl) ?_ _
            generalize w6.setRow (g8 + 1) (bw (Wb.addB n r1 (Wb.notB n g) true)) = w7 at *
            have c4 := x4.cell (j := k) (by omega)
            have z4 := x4.loose k
            simp only [Act.put, List.setIfInBounds_toArray, List.set_cons_zero, List.set_cons_succ]
            go_wp2
            go_roundw
            case rel => exact ⟨m + 1, by omega, congrArg (Value.int .i64) (by omega), x0.set_other (by omega) _ _, x1.set_other (by omega) _ _, x2.set_other (by omega) _ _, x3.set_other (by omega) _ _, by rw [HD.out]; exact x4.set_same k true, by rw [HD.out]; exact x5.set_other (by omega) _ _, xb.setCell (by show B ≤ g8; omega) _⟩
            case measure => (simp [intOf]; try omega)
          · with_reducible refine step_load (.tmp 5) (B + 1) g a1 rfl rfl rfl ?_
            refine hK _ _ ?_
            clear hK K
            simp only [Act.put, List.setIfInBounds_toArray, List.set_cons_zero, List.set_cons_succ]
            refine wpAny_ready (rs := [1, 4]) (by kernel_rfl) (by simp) (AllReady.cons rfl (fun K hK => ?_) (AllReady.cons rfl (fun K hK => ?_) AllReady.nil))
            · with_reducible refine step_load (.tmp 9) (g8 + 1) r1 a5 rfl rfl rfl ?_
              refine hK _ _ ?_
              clear hK K
              simp only [Act.put, List.setIfInBounds_toArray, List.set_cons_zero, List.set_cons_succ]
              refine wpAny_ready (rs := [4]) (by kernel_rfl) (by simp) (AllReady.cons rfl (fun K hK => ?_) AllReady.nil)
              go_simp
              refine (not_any n g h2 _).mono ?_
              rintro e w5 ⟨rfl, hb5⟩
              refine hK _ _ ?_
              clear hK K
              have b0 := a0.below hb5 a0.lt
              have b1 := a1.below hb5 a1.lt
              have b2 := a2.below hb5 a2.lt
              have b3 := a3.below hb5 a3.lt
              have b4 := a4.below hb5 a4.lt
              have b5 := a5.below hb5 a5.lt
              have bb := ab.trans (hb5.mono (by have := a0.lt; omega))
              clear a0 a1 a2 a3 a4 a5 ab hb5
              refine wpAny_ready (rs := [5]) (by kernel_rfl) (by simp) (AllReady.cons rfl (fun K hK => ?_) AllReady.nil)
              go_simp
              refine (add_any n r1 (Wb.notB n g) true h2 _).mono ?_
              rintro e w6 ⟨rfl, hb6⟩
              refine hK _ _ ?_
              clear hK K
              have d0 := b0.below hb6 b0.lt
              have d1 := b1.below hb6 b1.lt
              have d2 := b2.below hb6 b2.lt
              have d3 := b3.below hb6 b3.lt
              have d4 := b4.below hb6 b4.lt
              have d5 := b5.below hb6 b5.lt
              have db := bb.trans (hb6.mono (by have := b0.lt; omega))
              clear b0 b1 b2 b3 b4 b5 bb hb6
              refine wpAny_ready (rs := [6]) (by kernel_rfl) (by simp) (AllReady.cons rfl (fun K hK => ?_) AllReady.nil)
              with_reducible refine step_store (.tmp 9) (.tmp 48) (g8 + 1) r1 (Wb.addB n r1 (Wb.notB n g) true) d5 rfl rfl rfl rfl ?_
              refine hK _ _ ?_
              clear hK K
              have x0 := d0.row_other (k := g8 + 1) (by omega) (bw (Wb.addB n r1 (Wb.notB n g) true))
              have x1 := d1.row_other (k := g8 + 1) (by omega) (bw (Wb.addB n r1 (Wb.notB n g) true))
              have x2 := d2.row_other (k := g8 + 1) (by omega) (bw (Wb.addB n r1 (Wb.notB n g) true))
              have x3 := d3.row_other (k := g8 + 1) (by omega) (bw (Wb.addB n r1 (Wb.notB n g) true))
              have x4 := d4.row_other (k := g8 + 1) (by omega) (bw (Wb.addB n r1 (Wb.notB n g) true))
              have x5 := d5.row_same (Wb.addB n r1 (Wb.notB n g) true)
              have xb := below_setRow db (show B ≤ g8 + 1 by omega) (bw (Wb.addB n r1 (Wb.notB n g) true))
              clear d0 d1 d2 d3 d4 d5 db
              refine wpAny_done (by kernel_rfl) ?_ _
              generalize w6.setRow (g8 + 1) (bw (Wb.addB n r1 (Wb.notB n g) true)) = w7 at *
              have c4 := x4.cell (j := k) (by omega)
              have z4 := x4.loose k
              simp only [Act.put, List.setIfInBounds_toArray, List.set_cons_zero, List.set_cons_succ]
              go_wp2
              go_roundw
              case rel => exact ⟨m + 1, by omega, congrArg (Value.int .i64) (by omega), x0.set_other (by omega) _ _, x1.set_other (by omega) _ _, x2.set_other (by omega) _ _, x3.set_other (by omega) _ _, by rw [HD.out]; exact x4.set_same k true, by rw [HD.out]; exact x5.set_other (by omega) _ _, xb.setCell (by show B ≤ g8; omega) _⟩
              case measure => (simp [intOf]; try omega)
            · go_simp
              refine (not_any n g h2 _).mono ?_
              rintro e w5 ⟨rfl, hb5⟩
              refine hK _ _ ?_
              clear hK K
              have b0 := a0.below hb5 a0.lt
              have b1 := a1.below hb5 a1.lt
              have b2 := a2.below hb5 a2.lt
              have b3 := a3.below hb5 a3.lt
              have b4 := a4.below hb5 a4.lt
              have b5 := a5.below hb5 a5.lt
              have bb := ab.trans (hb5.mono (by have := a0.lt; omega))
              clear a0 a1 a2 a3 a4 a5 ab hb5
              refine wpAny_ready (rs := [1]) (by kernel_rfl) (by simp) (AllReady.cons rfl (fun K hK => ?_) AllReady.nil)
              with_reducible refine step_load (.tmp 9) (g8 + 1) r1 b5 rfl rfl rfl ?_
              refine hK _ _ ?_
              clear hK K
              simp only [Act.put, List.setIfInBounds_toArray, List.set_cons_zero, List.set_cons_succ]
              refine wpAny_ready (rs := [5]) (by kernel_rfl) (by simp) (AllReady.cons rfl (fun K hK => ?_) AllReady.nil)
              go_simp
              refine (add_any n r1 (Wb.notB n g) true h2 _).mono ?_
              rintro e w6 ⟨rfl, hb6⟩
              refine hK _ _ ?_
              clear hK K
              have d0 := b0.below hb6 b0.lt
              have d1 := b1.below hb6 b1.lt
              have d2 := b2.below hb6 b2.lt
              have d3 := b3.below hb6 b3.lt
              have d4 := b4.below hb6 b4.lt
              have d5 := b5.below hb6 b5.lt
              have db := bb.trans (hb6.mono (by have := b0.lt; omega))
              clear b0 b1 b2 b3 b4 b5 bb hb6
              refine wpAny_ready (rs := [6]) (by kernel_rfl) (by simp) (AllReady.cons rfl (fun K hK => ?_) AllReady.nil)
              with_reducible refine step_store (.tmp 9) (.tmp 48) (g8 + 1) r1 (Wb.addB n r1 (Wb.notB n g) true) d5 rfl rfl rfl rfl ?_
              refine hK _ _ ?_
              clear hK K
              have x0 := d0.row_other (k := g8 + 1) (by omega) (bw (Wb.addB n r1 (Wb.notB n g) true))
              have x1 := d1.row_other (k := g8 + 1) (by omega) (bw (Wb.addB n r1 (Wb.notB n g) true))
              have x2 := d2.row_other (k := g8 + 1) (by omega) (bw (Wb.addB n r1 (Wb.notB n g) true))
              have x3 := d3.row_other (k := g8 + 1) (by omega) (bw (Wb.addB n r1 (Wb.notB n g) true))
              have x4 := d4.row_other (k := g8 + 1) (by omega) (bw (Wb.addB n r1 (Wb.notB n g) true))
              have x5 := d5.row_same (Wb.addB n r1 (Wb.notB n g) true)
              have xb := below_setRow db (show B ≤ g8 + 1 by omega) (bw (Wb.addB n r1 (Wb.notB n g) true))
              clear d0 d1 d2 d3 d4 d5 db
              refine wpAny_done (by kernel_rfl) ?_ _
              generalize w6.setRow (g8 + 1) (bw (Wb.addB n r1 (Wb.notB n g) true)) = w7 at *
              have c4 := x4.cell (j := k) (by omega)
              have z4 := x4.loose k
              simp only [Act.put, List.setIfInBounds_toArray, List.set_cons_zero, List.set_cons_succ]
              go_wp2
              go_roundw
              case rel => exact ⟨m + 1, by omega, congrArg (Value.int .i64) (by omega), x0.set_other (by omega) _ _, x1.set_other (by omega) _ _, x2.set_other (by omega) _ _, x3.set_other (by omega) _ _, by rw [HD.out]; exact x4.set_same k true, by rw [HD.out]; exact x5.set_other (by omega) _ _, xb.setCell (by show B ≤ g8; omega) _⟩
              case measure => (simp [intOf]; try omega)
      · have HD := Lib.hid (show Wb.dv n f g (m + 1) = (upd q k true, Wb.addB n r1 (Wb.notB n g) true) by rw [HDV.out]; simp)
        go_wp2
        refine wp_region_any (by kernel_rfl) ?_
        change wpAny _ _ _ _ _ _ _ w3.drew
        have a0 : Row w3.drew B f := e0
        have a1 : Row w3.drew (B + 1) g := e1
        have a2 : Row w3.drew (B + 1 + 1) off := e2
        have a3 : Row w3.drew (B + 1 + 1 + 1) off := e3
        have a4 : Row w3.drew g8 q := e4
        have a5 : Row w3.drew (g8 + 1) r1 := e5
        have ab : Below B w w3.drew := eb.drew
        clear e0 e1 e2 e3 e4 e5 eb
        generalize w3.drew = w4 at *
        refine wpAny_take (i := 0) (v := .int .i64 n) rfl (by kernel_rfl) (by kernel_rfl) (by kernel_rfl) (fun _ _ _ h => h) (Or.inl ⟨by rfl, fun _ => rfl⟩) ?_
        refine wpAny_take (i := 2) (v := .int .i64 n) rfl (by kernel_rfl) (by kernel_rfl) (by kernel_rfl) (fun _ _ _ h => h) (Or.inl ⟨by rfl, fun _ => rfl⟩) ?_
        simp only [Act.put, List.setIfInBounds_toArray, List.set_cons_zero, List.set_cons_succ]
        refine wpAny_ready (rs := [1, 3]) (by kernel_rfl) (by simp) (AllReady.cons rfl (fun K hK => ?_) (AllReady.cons rfl (fun K hK => ?_) AllReady.nil))
        · with_reducible refine step_load (.tmp 9) (g8 + 1) r1 a5 rfl rfl rfl ?_
          refine hK _ _ ?_
          clear hK K
          simp only [Act.put, List.setIfInBounds_toArray, List.set_cons_zero, List.set_cons_succ]
          refine wpAny_ready (rs := [3]) (by kernel_rfl) (by simp) (AllReady.cons rfl (fun K hK => ?_) AllReady.nil)
          with_reducible refine step_load (.tmp 5) (B + 1) g a1 rfl rfl rfl ?_
          refine hK _ _ ?_
          clear hK K
          simp only [Act.put, List.setIfInBounds_toArray, List.set_cons_zero, List.set_cons_succ]
          refine wpAny_ready (rs := [4]) (by kernel_rfl) (by simp) (AllReady.cons rfl (fun K hK => ?_) AllReady.nil)
          go_simp
          refine (not_any n g h2 _).mono ?_
          rintro e w5 ⟨rfl, hb5⟩
          refine hK _ _ ?_
          clear hK K
          have b0 := a0.below hb5 a0.lt
          have b1 := a1.below hb5 a1.lt
          have b2 := a2.below hb5 a2.lt
          have b3 := a3.below hb5 a3.lt
          have b4 := a4.below hb5 a4.lt
          have b5 := a5.below hb5 a5.lt
          have bb := ab.trans (hb5.mono (by have := a0.lt; omega))
          clear a0 a1 a2 a3 a4 a5 ab hb5
          refine wpAny_ready (rs := [5]) (by kernel_rfl) (by simp) (AllReady.cons rfl (fun K hK => ?_) AllReady.nil)
          go_simp
          refine (add_any n r1 (Wb.notB n g) true h2 _).mono ?_
          rintro e w6 ⟨rfl, hb6⟩
          refine hK _ _ ?_
          clear hK K
          have d0 := b0.below hb6 b0.lt
          have d1 := b1.below hb6 b1.lt
          have d2 := b2.below hb6 b2.lt
          have d3 := b3.below hb6 b3.lt
          have d4 := b4.below hb6 b4.lt
          have d5 := b5.below hb6 b5.lt
          have db := bb.trans (hb6.mono (by have := b0.lt; omega))
          clear b0 b1 b2 b3 b4 b5 bb hb6
          refine wpAny_ready (rs := [6]) (by kernel_rfl) (by simp) (AllReady.cons rfl (fun K hK => ?_) AllReady.nil)
          with_reducible refine step_store (.tmp 9) (.tmp 48) (g8 + 1) r1 (Wb.addB n r1 (Wb.notB n g) true) d5 rfl rfl rfl rfl ?_
          refine hK _ _ ?_
          clear hK K
          have x0 := d0.row_other (k := g8 + 1) (by omega) (bw (Wb.addB n r1 (Wb.notB n g) true))
          have x1 := d1.row_other (k := g8 + 1) (by omega) (bw (Wb.addB n r1 (Wb.notB n g) true))
          have x2 := d2.row_other (k := g8 + 1) (by omega) (bw (Wb.addB n r1 (Wb.notB n g) true))
          have x3 := d3.row_other (k := g8 + 1) (by omega) (bw (Wb.addB n r1 (Wb.notB n g) true))
          have x4 := d4.row_other (k := g8 + 1) (by omega) (bw (Wb.addB n r1 (Wb.notB n g) true))
          have x5 := d5.row_same (Wb.addB n r1 (Wb.notB n g) true)
          have xb := below_setRow db (show B ≤ g8 + 1 by omega) (bw (Wb.addB n r1 (Wb.notB n g) true))
          clear d0 d1 d2 d3 d4 d5 db
          refine wpAny_done (by kernel_rfl) ?_ _
          generalize w6.setRow (g8 + 1) (bw (Wb.addB n r1 (Wb.notB n g) true)) = w7 at *
          have c4 := x4.cell (j := k) (by omega)
          have z4 := x4.loose k
          simp only [Act.put, List.setIfInBounds_toArray, List.set_cons_zero, List.set_cons_succ]
          go_wp2
          go_roundw
          case rel => exact ⟨m + 1, by omega, congrArg (Value.int .i64) (by omega), x0.set_other (by omega) _ _, x1.set_other (by omega) _ _, x2.set_other (by omega) _ _, x3.set_other (by omega) _ _, by rw [HD.out]; exact x4.set_same k true, by rw [HD.out]; exact x5.set_other (by omega) _ _, xb.setCell (by show B ≤ g8; omega) _⟩
          case measure => (simp [intOf]; try omega)
        · with_reducible refine step_load (.tmp 5) (B + 1) g a1 rfl rfl rfl ?_
          refine hK _ _ ?_
          clear hK K
          simp only [Act.put, List.setIfInBounds_toArray, List.set_cons_zero, List.set_cons_succ]
          refine wpAny_ready (rs := [1, 4]) (by kernel_rfl) (by simp) (AllReady.cons rfl (fun K hK => ?_) (AllReady.cons rfl (fun K hK => ?_) AllReady.nil))
          · with_reducible refine step_load (.tmp 9) (g8 + 1) r1 a5 rfl rfl rfl ?_
            refine hK _ _ ?_
            clear hK K
            simp only [Act.put, List.setIfInBounds_toArray, List.set_cons_zero, List.set_cons_succ]
            refine wpAny_ready (rs := [4]) (by kernel_rfl) (by simp) (AllReady.cons rfl (fun K hK => ?_) AllReady.nil)
            go_simp
            refine (not_any n g h2 _).mono ?_
            rintro e w5 ⟨rfl, hb5⟩
            refine hK _ _ ?_
            clear hK K
            have b0 := a0.below hb5 a0.lt
            have b1 := a1.below hb5 a1.lt
            have b2 := a2.below hb5 a2.lt
            have b3 := a3.below hb5 a3.lt
            have b4 := a4.below hb5 a4.lt
            have b5 := a5.below hb5 a5.lt
            have bb := ab.trans (hb5.mono (by have := a0.lt; omega))
            clear a0 a1 a2 a3 a4 a5 ab hb5
            refine wpAny_ready (rs := [5]) (by kernel_rfl) (by simp) (AllReady.cons rfl (fun K hK => ?_) AllReady.nil)
            go_simp
            refine (add_any n r1 (Wb.notB n g) true h2 _).mono ?_
            rintro e w6 ⟨rfl, hb6⟩
            refine hK _ _ ?_
            clear hK K
            have d0 := b0.below hb6 b0.lt
            have d1 := b1.below hb6 b1.lt
            have d2 := b2.below hb6 b2.lt
            have d3 := b3.below hb6 b3.lt
            have d4 := b4.below hb6 b4.lt
            have d5 := b5.below hb6 b5.lt
            have db := bb.trans (hb6.mono (by have := b0.lt; omega))
            clear b0 b1 b2 b3 b4 b5 bb hb6
            refine wpAny_ready (rs := [6]) (by kernel_rfl) (by simp) (AllReady.cons rfl (fun K hK => ?_) AllReady.nil)
            with_reducible refine step_store (.tmp 9) (.tmp 48) (g8 + 1) r1 (Wb.addB n r1 (Wb.notB n g) true) d5 rfl rfl rfl rfl ?_
            refine hK _ _ ?_
            clear hK K
            have x0 := d0.row_other (k := g8 + 1) (by omega) (bw (Wb.addB n r1 (Wb.notB n g) true))
            have x1 := d1.row_other (k := g8 + 1) (by omega) (bw (Wb.addB n r1 (Wb.notB n g) true))
            have x2 := d2.row_other (k := g8 + 1) (by omega) (bw (Wb.addB n r1 (Wb.notB n g) true))
            have x3 := d3.row_other (k := g8 + 1) (by omega) (bw (Wb.addB n r1 (Wb.notB n g) true))
            have x4 := d4.row_other (k := g8 + 1) (by omega) (bw (Wb.addB n r1 (Wb.notB n g) true))
            have x5 := d5.row_same (Wb.addB n r1 (Wb.notB n g) true)
            have xb := below_setRow db (show B ≤ g8 + 1 by omega) (bw (Wb.addB n r1 (Wb.notB n g) true))
            clear d0 d1 d2 d3 d4 d5 db
            refine wpAny_done (by kernel_rfl) ?_ _
            generalize w6.setRow (g8 + 1) (bw (Wb.addB n r1 (Wb.notB n g) true)) = w7 at *
            have c4 := x4.cell (j := k) (by omega)
            have z4 := x4.loose k
            simp only [Act.put, List.setIfInBounds_toArray, List.set_cons_zero, List.set_cons_succ]
            go_wp2
            go_roundw
            case rel => exact ⟨m + 1, by omega, congrArg (Value.int .i64) (by omega), x0.set_other (by omega) _ _, x1.set_other (by omega) _ _, x2.set_other (by omega) _ _, x3.set_other (by omega) _ _, by rw [HD.out]; exact x4.set_same k true, by rw [HD.out]; exact x5.set_other (by omega) _ _, xb.setCell (by show B ≤ g8; omega) _⟩
            case measure => (simp [intOf]; try omega)
          · go_simp
            refine (not_any n g h2 _).mono ?_
            rintro e w5 ⟨rfl, hb5⟩
            refine hK _ _ ?_
            clear hK K
            have b0 := a0.below hb5 a0.lt
            have b1 := a1.below hb5 a1.lt
            have b2 := a2.below hb5 a2.lt
            have b3 := a3.below hb5 a3.lt
            have b4 := a4.below hb5 a4.lt
            have b5 := a5.below hb5 a5.lt
            have bb := ab.trans (hb5.mono (by have := a0.lt; omega))
            clear a0 a1 a2 a3 a4 a5 ab hb5
            refine wpAny_ready (rs := [1]) (by kernel_rfl) (by simp) (AllReady.cons rfl (fun K hK => ?_) AllReady.nil)
            with_reducible refine step_load (.tmp 9) (g8 + 1) r1 b5 rfl rfl rfl ?_
            refine hK _ _ ?_
            clear hK K
            simp only [Act.put, List.setIfInBounds_toArray, List.set_cons_zero, List.set_cons_succ]
            refine wpAny_ready (rs := [5]) (by kernel_rfl) (by simp) (AllReady.cons rfl (fun K hK => ?_) AllReady.nil)
            go_simp
            refine (add_any n r1 (Wb.notB n g) true h2 _).mono ?_
            rintro e w6 ⟨rfl, hb6⟩
            refine hK _ _ ?_
            clear hK K
            have d0 := b0.below hb6 b0.lt
            have d1 := b1.below hb6 b1.lt
            have d2 := b2.below hb6 b2.lt
            have d3 := b3.below hb6 b3.lt
            have d4 := b4.below hb6 b4.lt
            have d5 := b5.below hb6 b5.lt
            have db := bb.trans (hb6.mono (by have := b0.lt; omega))
            clear b0 b1 b2 b3 b4 b5 bb hb6
            refine wpAny_ready (rs := [6]) (by kernel_rfl) (by simp) (AllReady.cons rfl (fun K hK => ?_) AllReady.nil)
            with_reducible refine step_store (.tmp 9) (.tmp 48) (g8 + 1) r1 (Wb.addB n r1 (Wb.notB n g) true) d5 rfl rfl rfl rfl ?_
            refine hK _ _ ?_
            clear hK K
            have x0 := d0.row_other (k := g8 + 1) (by omega) (bw (Wb.addB n r1 (Wb.notB n g) true))
            have x1 := d1.row_other (k := g8 + 1) (by omega) (bw (Wb.addB n r1 (Wb.notB n g) true))
            have x2 := d2.row_other (k := g8 + 1) (by omega) (bw (Wb.addB n r1 (Wb.notB n g) true))
            have x3 := d3.row_other (k := g8 + 1) (by omega) (bw (Wb.addB n r1 (Wb.notB n g) true))
            have x4 := d4.row_other (k := g8 + 1) (by omega) (bw (Wb.addB n r1 (Wb.notB n g) true))
            have x5 := d5.row_same (Wb.addB n r1 (Wb.notB n g) true)
            have xb := below_setRow db (show B ≤ g8 + 1 by omega) (bw (Wb.addB n r1 (Wb.notB n g) true))
            clear d0 d1 d2 d3 d4 d5 db
            refine wpAny_done (by kernel_rfl) ?_ _
            generalize w6.setRow (g8 + 1) (bw (Wb.addB n r1 (Wb.notB n g) true)) = w7 at *
            have c4 := x4.cell (j := k) (by omega)
            have z4 := x4.loose k
            simp only [Act.put, List.setIfInBounds_toArray, List.set_cons_zero, List.set_cons_succ]
            go_wp2
            go_roundw
            case rel => exact ⟨m + 1, by omega, congrArg (Value.int .i64) (by omega), x0.set_other (by omega) _ _, x1.set_other (by omega) _ _, x2.set_other (by omega) _ _, x3.set_other (by omega) _ _, by rw [HD.out]; exact x4.set_same k true, by rw [HD.out]; exact x5.set_other (by omega) _ _, xb.setCell (by show B ≤ g8; omega) _⟩
            case measure => (simp [intOf]; try omega)
    · obtain rfl : m = n := by omega
      obtain ⟨q, hq⟩ : ∃ q, (Wb.dv m f g m).1 = q := ⟨_, rfl⟩
      obtain ⟨r, hr⟩ : ∃ r, (Wb.dv m f g m).2 = r := ⟨_, rfl⟩
      rw [hq] at r4
      rw [hr] at r5
      have HQ := Lib.hid hq
      have HR := Lib.hid hr
      clear hq hr r0 r1
      go_wp2
      refine wp_region_any (by kernel_rfl) ?_
      change wpAny _ _ _ _ _ _ _ wr.drew
      have a2 : Row wr.drew (B + 1 + 1) off := r2
      have a3 : Row wr.drew (B + 1 + 1 + 1) off := r3
      have a4 : Row wr.drew g8 q := r4
      have a5 : Row wr.drew (g8 + 1) r := r5
      have ab : Below B w wr.drew := hb.drew
      clear r2 r3 r4 r5 hb
      generalize wr.drew = w4 at *
      refine wpAny_ready (rs := [0, 1]) (by kernel_rfl) (by simp) (AllReady.cons rfl (fun K hK => ?_) (AllReady.cons rfl (fun K hK => ?_) AllReady.nil))
      · with_reducible refine step_load (.tmp 8) g8 q a4 rfl rfl rfl ?_
        refine hK _ _ ?_
        clear hK K
        simp [Act.put]
        refine wpAny_ready (rs := [1, 2]) (by kernel_rfl) (by simp) (AllReady.cons rfl (fun K hK => ?_) (AllReady.cons rfl (fun K hK => ?_) AllReady.nil))
        · with_reducible refine step_load (.tmp 9) (g8 + 1) r a5 rfl rfl rfl ?_
          refine hK _ _ ?_
          clear hK K
          simp [Act.put]
          refine wpAny_ready (rs := [2]) (by kernel_rfl) (by simp) (AllReady.cons rfl (fun K hK => ?_) AllReady.nil)
          with_reducible refine step_store (.tmp 6) (.tmp 51) (B + 1 + 1) off q a2 rfl rfl rfl rfl ?_
          refine hK _ _ ?_
          clear hK K
          simp [Act.put]
          have b2 := a2.row_same q
          have b3 := a3.row_other (k := B + 1 + 1) (by omega) (bw q)
          have b5 := a5.row_other (k := B + 1 + 1) (by omega) (bw q)
          have bb := below_setRow ab (show B ≤ B + 1 + 1 by omega) (bw q)
          clear a2 a3 a5 ab
          generalize w4.setRow (B + 1 + 1) (bw q) = w5 at *
          refine wpAny_ready (rs := [3]) (by kernel_rfl) (by simp) (AllReady.cons rfl (fun K hK => ?_) AllReady.nil)
          with_reducible refine step_store (.tmp 7) (.tmp 52) (B + 1 + 1 + 1) off r b3 rfl rfl rfl rfl ?_
          refine hK _ _ ?_
          clear hK K
          simp [Act.put]
          have c2 := b2.row_other (k := B + 1 + 1 + 1) (by omega) (bw r)
          have c3 := b3.row_same r
          have cb := below_setRow bb (show B ≤ B + 1 + 1 + 1 by omega) (bw r)
          generalize w5.setRow (B + 1 + 1 + 1) (bw r) = w6 at *
          refine wpAny_done (by kernel_rfl) ?_ _
          clear a4 b2 b3 b5 bb
          go_wp2
          exact ret_rows (p := 6) (p' := 7) _ _ _ _ c2 c3 Try.results69 rfl rfl rfl ⟨by rw [HQ.out, HR.out], HB.out ▸ cb⟩
        · with_reducible refine step_store (.tmp 6) (.tmp 51) (B + 1 + 1) off q a2 rfl rfl rfl rfl ?_
          refine hK _ _ ?_
          clear hK K
          simp [Act.put]
          have b2 := a2.row_same q
          have b3 := a3.row_other (k := B + 1 + 1) (by omega) (bw q)
          have b5 := a5.row_other (k := B + 1 + 1) (by omega) (bw q)
          have bb := below_setRow ab (show B ≤ B + 1 + 1 by omega) (bw q)
          clear a2 a3 a5 ab
          generalize w4.setRow (B + 1 + 1) (bw q) = w5 at *
          refine wpAny_ready (rs := [1]) (by kernel_rfl) (by simp) (AllReady.cons rfl (fun K hK => ?_) AllReady.nil)
          with_reducible refine step_load (.tmp 9) (g8 + 1) r b5 rfl rfl rfl ?_
          refine hK _ _ ?_
          clear hK K
          simp [Act.put]
          refine wpAny_ready (rs := [3]) (by kernel_rfl) (by simp) (AllReady.cons rfl (fun K hK => ?_) AllReady.nil)
          with_reducible refine step_store (.tmp 7) (.tmp 52) (B + 1 + 1 + 1) off r b3 rfl rfl rfl rfl ?_
          refine hK _ _ ?_
          clear hK K
          simp [Act.put]
          have c2 := b2.row_other (k := B + 1 + 1 + 1) (by omega) (bw r)
          have c3 := b3.row_same r
          have cb := below_setRow bb (show B ≤ B + 1 + 1 + 1 by omega) (bw r)
          generalize w5.setRow (B + 1 + 1 + 1) (bw r) = w6 at *
          refine wpAny_done (by kernel_rfl) ?_ _
          clear a4 b2 b3 b5 bb
          go_wp2
          exact ret_rows (p := 6) (p' := 7) _ _ _ _ c2 c3 Try.results69 rfl rfl rfl ⟨by rw [HQ.out, HR.out], HB.out ▸ cb⟩
      · with_reducible refine step_load (.tmp 9) (g8 + 1) r a5 rfl rfl rfl ?_
        refine hK _ _ ?_
        clear hK K
        simp [Act.put]
        refine wpAny_ready (rs := [0]) (by kernel_rfl) (by simp) (AllReady.cons rfl (fun K hK => ?_) AllReady.nil)
        with_reducible refine step_load (.tmp 8) g8 q a4 rfl rfl rfl ?_
        refine hK _ _ ?_
        clear hK K
        simp [Act.put]
        refine wpAny_ready (rs := [2]) (by kernel_rfl) (by simp) (AllReady.cons rfl (fun K hK => ?_) AllReady.nil)
        with_reducible refine step_store (.tmp 6) (.tmp 51) (B + 1 + 1) off q a2 rfl rfl rfl rfl ?_
        refine hK _ _ ?_
        clear hK K
        simp [Act.put]
        have b2 := a2.row_same q
        have b3 := a3.row_other (k := B + 1 + 1) (by omega) (bw q)
        have b5 := a5.row_other (k := B + 1 + 1) (by omega) (bw q)
        have bb := below_setRow ab (show B ≤ B + 1 + 1 by omega) (bw q)
        clear a2 a3 a5 ab
        generalize w4.setRow (B + 1 + 1) (bw q) = w5 at *
        refine wpAny_ready (rs := [3]) (by kernel_rfl) (by simp) (AllReady.cons rfl (fun K hK => ?_) AllReady.nil)
        with_reducible refine step_store (.tmp 7) (.tmp 52) (B + 1 + 1 + 1) off r b3 rfl rfl rfl rfl ?_
        refine hK _ _ ?_
        clear hK K
        simp [Act.put]
        have c2 := b2.row_other (k := B + 1 + 1 + 1) (by omega) (bw r)
        have c3 := b3.row_same r
        have cb := below_setRow bb (show B ≤ B + 1 + 1 + 1 by omega) (bw r)
        generalize w5.setRow (B + 1 + 1 + 1) (bw r) = w6 at *
        refine wpAny_done (by kernel_rfl) ?_ _
        clear a4 b2 b3 b5 bb
        go_wp2
        exact ret_rows (p := 6) (p' := 7) _ _ _ _ c2 c3 Try.results69 rfl rfl rfl ⟨by rw [HQ.out, HR.out], HB.out ▸ cb⟩
end Go.Proofs.Ytbjckcjfambpoaa
namespace Go.Proofs.Ytbjckcjfambpoaa
set_option linter.unusedSimpArgs false
set_option linter.unusedVariables false
set_option maxRecDepth 100000
open Go.RowKit

theorem built29 : Try.prog.built 62 [] = some (bw off) := by kernel_rfl

set_option maxHeartbeats 1000000 in
theorem div_nought (n : Nat) (f g : Nat → Bool) (h2 : n ≤ 64) (hg : Wb.val g 64 = 0) (w : World) :
    Calls Try.prog 69 #[.int .i64 n, .agg (bw f), .agg (bw g)] w fun e w' => e = .returned (.tuple #[.agg (bw (Wb.notB n off)), .agg (bw f)]) ∧ Below w.heap.size w w' := by
  have HG := Lib.hid hg
  clear hg
  go_enter Try.func69, Try.ntmps69
  go_upto_region 1 with (fail)
  rw [bw_zero]
  refine gen_world (S := fun W => Row W w.heap.size f ∧ Row W (w.heap.size + 1) g ∧ Row W (w.heap.size + 1 + 1) off ∧ Row W (w.heap.size + 1 + 1 + 1) off ∧ Below w.heap.size w W) ?_ ?_
  · exact ⟨(((Row.new w f).alloc _).alloc _).alloc _, ((Row.new_at (w.alloc _) g (by simp)).alloc _).alloc _, (Row.new_at ((w.alloc _).alloc _) off (by simp)).alloc _, Row.new_at (((w.alloc _).alloc _).alloc _) off (by simp), below_four⟩
  intro W ⟨r0, r1, r2, r3, hb⟩
  go_wp2_with (first
    | (with_reducible refine load_row (.tmp 5) _ _ r1 rfl rfl rfl ?_)
    | fail)
  refine (num_any g _).mono ?_
  rintro e w1 ⟨rfl, hb1⟩
  rw [HG.out]
  have q0 := r0.below hb1 r0.lt
  have q2 := r2.below hb1 r2.lt
  have q3 := r3.below hb1 r3.lt
  have qb := hb.trans (hb1.mono (by have := hb.size; omega))
  clear r0 r1 r2 r3 hb hb1
  go_wp2
  generalize hB : w.heap.size = B at *
  have HB := Lib.hid hB
  clear hB
  refine wp_region_any (by kernel_rfl) ?_
  change wpAny _ _ _ _ _ _ _ w1.drew
  have a0 : Row w1.drew B f := q0
  have a2 : Row w1.drew (B + 1 + 1) off := q2
  have a3 : Row w1.drew (B + 1 + 1 + 1) off := q3
  have ab : Below B w w1.drew := qb.drew
  clear q0 q2 q3 qb
  generalize w1.drew = w4 at *
  refine wpAny_take (i := 0) (v := .int .i64 n) rfl (by kernel_rfl) (by kernel_rfl) (by kernel_rfl) (fun _ _ _ h => h) (Or.inl ⟨by rfl, fun _ => rfl⟩) ?_
  refine wpAny_take (i := 1) (v := .agg (bw off)) rfl (by kernel_rfl) (by kernel_rfl) (by kernel_rfl) (fun _ _ _ h => h) (Or.inl ⟨by rfl, fun _ => by simp [execOp, run_build _ 62 #[] (bw off) built29]⟩) ?_
  simp [Act.put]
  refine wpAny_ready (rs := [2, 3]) (by kernel_rfl) (by simp) (AllReady.cons rfl (fun K hK => ?_) (AllReady.cons rfl (fun K hK => ?_) AllReady.nil))
  · go_simp
    refine (not_any n off h2 _).mono ?_
    rintro e w5 ⟨rfl, hb5⟩
    refine hK _ _ ?_
    clear hK K
    have b0 := a0.below hb5 a0.lt
    have b2 := a2.below hb5 a2.lt
    have b3 := a3.below hb5 a3.lt
    have bb := ab.trans (hb5.mono (by have := a0.lt; omega))
    clear a0 a2 a3 ab hb5
    refine wpAny_ready (rs := [3, 4]) (by kernel_rfl) (by simp) (AllReady.cons rfl (fun K hK => ?_) (AllReady.cons rfl (fun K hK => ?_) AllReady.nil))
    · with_reducible refine step_load (.tmp 4) B f b0 rfl rfl rfl ?_
      refine hK _ _ ?_
      clear hK K
      simp [Act.put]
      refine wpAny_ready (rs := [4]) (by kernel_rfl) (by simp) (AllReady.cons rfl (fun K hK => ?_) AllReady.nil)
      with_reducible refine step_store (.tmp 6) (.tmp 17) (B + 1 + 1) off (Wb.notB n off) b2 rfl rfl rfl rfl ?_
      refine hK _ _ ?_
      clear hK K
      simp [Act.put]
      have c2 := b2.row_same (Wb.notB n off)
      have c3 := b3.row_other (k := B + 1 + 1) (by omega) (bw (Wb.notB n off))
      have c0 := b0.row_other (k := B + 1 + 1) (by omega) (bw (Wb.notB n off))
      have cb := below_setRow bb (show B ≤ B + 1 + 1 by omega) (bw (Wb.notB n off))
      clear b0 b2 b3 bb
      generalize w5.setRow (B + 1 + 1) (bw (Wb.notB n off)) = w6 at *
      refine wpAny_ready (rs := [5]) (by kernel_rfl) (by simp) (AllReady.cons rfl (fun K hK => ?_) AllReady.nil)
      with_reducible refine step_store (.tmp 7) (.tmp 18) (B + 1 + 1 + 1) off f c3 rfl rfl rfl rfl ?_
      refine hK _ _ ?_
      clear hK K
      simp [Act.put]
      have d2 := c2.row_other (k := B + 1 + 1 + 1) (by omega) (bw f)
      have d3 := c3.row_same f
      have db := below_setRow cb (show B ≤ B + 1 + 1 + 1 by omega) (bw f)
      generalize w6.setRow (B + 1 + 1 + 1) (bw f) = w7 at *
      refine wpAny_done (by kernel_rfl) ?_ _
      clear c0 c2 c3 cb
      go_wp2
      exact ret_rows (p := 6) (p' := 7) _ _ _ _ d2 d3 Try.results69 rfl rfl rfl ⟨rfl, HB.out ▸ db⟩
    · with_reducible refine step_store (.tmp 6) (.tmp 17) (B + 1 + 1) off (Wb.notB n off) b2 rfl rfl rfl rfl ?_
      refine hK _ _ ?_
      clear hK K
      simp [Act.put]
      have c2 := b2.row_same (Wb.notB n off)
      have c3 := b3.row_other (k := B + 1 + 1) (by omega) (bw (Wb.notB n off))
      have c0 := b0.row_other (k := B + 1 + 1) (by omega) (bw (Wb.notB n off))
      have cb := below_setRow bb (show B ≤ B + 1 + 1 by omega) (bw (Wb.notB n off))
      clear b0 b2 b3 bb
      generalize w5.setRow (B + 1 + 1) (bw (Wb.notB n off)) = w6 at *
      refine wpAny_ready (rs := [3]) (by kernel_rfl) (by simp) (AllReady.cons rfl (fun K hK => ?_) AllReady.nil)
      with_reducible refine step_load (.tmp 4) B f c0 rfl rfl rfl ?_
      refine hK _ _ ?_
      clear hK K
      simp [Act.put]
      refine wpAny_ready (rs := [5]) (by kernel_rfl) (by simp) (AllReady.cons rfl (fun K hK => ?_) AllReady.nil)
      with_reducible refine step_store (.tmp 7) (.tmp 18) (B + 1 + 1 + 1) off f c3 rfl rfl rfl rfl ?_
      refine hK _ _ ?_
      clear hK K
      simp [Act.put]
      have d2 := c2.row_other (k := B + 1 + 1 + 1) (by omega) (bw f)
      have d3 := c3.row_same f
      have db := below_setRow cb (show B ≤ B + 1 + 1 + 1 by omega) (bw f)
      generalize w6.setRow (B + 1 + 1 + 1) (bw f) = w7 at *
      refine wpAny_done (by kernel_rfl) ?_ _
      clear c0 c2 c3 cb
      go_wp2
      exact ret_rows (p := 6) (p' := 7) _ _ _ _ d2 d3 Try.results69 rfl rfl rfl ⟨rfl, HB.out ▸ db⟩
  · with_reducible refine step_load (.tmp 4) B f a0 rfl rfl rfl ?_
    refine hK _ _ ?_
    clear hK K
    simp [Act.put]
    refine wpAny_ready (rs := [2]) (by kernel_rfl) (by simp) (AllReady.cons rfl (fun K hK => ?_) AllReady.nil)
    go_simp
    refine (not_any n off h2 _).mono ?_
    rintro e w5 ⟨rfl, hb5⟩
    refine hK _ _ ?_
    clear hK K
    have b0 := a0.below hb5 a0.lt
    have b2 := a2.below hb5 a2.lt
    have b3 := a3.below hb5 a3.lt
    have bb := ab.trans (hb5.mono (by have := a0.lt; omega))
    clear a0 a2 a3 ab hb5
    refine wpAny_ready (rs := [4]) (by kernel_rfl) (by simp) (AllReady.cons rfl (fun K hK => ?_) AllReady.nil)
    with_reducible refine step_store (.tmp 6) (.tmp 17) (B + 1 + 1) off (Wb.notB n off) b2 rfl rfl rfl rfl ?_
    refine hK _ _ ?_
    clear hK K
    simp [Act.put]
    have c2 := b2.row_same (Wb.notB n off)
    have c3 := b3.row_other (k := B + 1 + 1) (by omega) (bw (Wb.notB n off))
    have c0 := b0.row_other (k := B + 1 + 1) (by omega) (bw (Wb.notB n off))
    have cb := below_setRow bb (show B ≤ B + 1 + 1 by omega) (bw (Wb.notB n off))
    clear b0 b2 b3 bb
    generalize w5.setRow (B + 1 + 1) (bw (Wb.notB n off)) = w6 at *
    refine wpAny_ready (rs := [5]) (by kernel_rfl) (by simp) (AllReady.cons rfl (fun K hK => ?_) AllReady.nil)
    with_reducible refine step_store (.tmp 7) (.tmp 18) (B + 1 + 1 + 1) off f c3 rfl rfl rfl rfl ?_
    refine hK _ _ ?_
    clear hK K
    simp [Act.put]
    have d2 := c2.row_other (k := B + 1 + 1 + 1) (by omega) (bw f)
    have d3 := c3.row_same f
    have db := below_setRow cb (show B ≤ B + 1 + 1 + 1 by omega) (bw f)
    generalize w6.setRow (B + 1 + 1 + 1) (bw f) = w7 at *
    refine wpAny_done (by kernel_rfl) ?_ _
    clear c0 c2 c3 cb
    go_wp2
    exact ret_rows (p := 6) (p' := 7) _ _ _ _ d2 d3 Try.results69 rfl rfl rfl ⟨rfl, HB.out ▸ db⟩

namespace Wb
/-- The number with its sign, from the top down. -/
def sg (n : Nat) (f : Nat → Bool) : Nat → Int
  | 0 => if f (n - 1) then -1 else 0
  | m + 1 => sg n f m * 2 + (if f (n - 1 - m) then 1 else 0)
theorem sg_val (n : Nat) (f : Nat → Bool) : ∀ m, m ≤ n → sg n f m * ((2 ^ (n - m) : Nat) : Int) + (val f (n - m) : Nat) = (val f n : Nat) - (if f (n - 1) then ((2 ^ n : Nat) : Int) else 0)
  | 0, _ => by
    rw [sg, Nat.sub_zero]; split <;> omega
  | m + 1, h => by
    have ih := sg_val n f m (by omega)
    rw [← ih, sg, show n - m = (n - 1 - m) + 1 from by omega, val, show n - (m + 1) = n - 1 - m from by omega, Nat.pow_succ]
    generalize 2 ^ (n - 1 - m) = p
    rw [Int.add_mul, Int.mul_assoc]
    split
    · push_cast; rw [Int.mul_comm (p : Int) 2, Int.one_mul]; omega
    · push_cast; rw [Int.mul_comm (p : Int) 2, Int.zero_mul]; omega
theorem sg_bd (n : Nat) (f : Nat → Bool) : ∀ m, -((2 ^ m : Nat) : Int) ≤ sg n f (m + 1) ∧ sg n f (m + 1) < ((2 ^ m : Nat) : Int)
  | 0 => by
    rw [sg, sg]; simp; split <;> simp
  | m + 1 => by
    have ih := sg_bd n f m
    rw [sg, Nat.pow_succ]
    generalize 2 ^ m = p at *
    split <;> (push_cast; omega)
theorem sg_in (n : Nat) (f : Nat → Bool) (m : Nat) (h : m < 64) : -4611686018427387904 ≤ sg n f m ∧ sg n f m < 4611686018427387904 := by
  cases m with
  | zero => rw [sg]; split <;> omega
  | succ m =>
    have h1 := sg_bd n f m
    have h2 : 2 ^ m ≤ 2 ^ 62 := Nat.pow_le_pow_right (by decide) (by omega)
    omega
end Wb

end Go.Proofs.Ytbjckcjfambpoaa
namespace Go.Proofs.Ytbjckcjfambpoaa
set_option linter.unusedSimpArgs false
set_option linter.unusedVariables false
set_option maxRecDepth 100000
open Go.RowKit

theorem zero29 (w : World) : (zeroValue 62).run Try.prog w = .ok (.agg (bw off)) w := (Try.zeroValue62 w).trans (by rw [bw_zero])
/-- A new row, all off. -/
theorem alloc_row {ops : Array Oper} {rest : List Oper} {o : Oper} {a : Act} {w : World} {Q : Exit → Act → World → Prop} (hgd : o.guard = none) (ho : o.op = .alloc 62)
    (h : wpList Try.prog ops Q rest (a.put o.dst (.pointer (some ⟨w.heap.size, 0, none⟩))) (w.alloc (.cells (bw off) 62))) : wpList Try.prog ops Q (o :: rest) a w :=
  wpList_plain hgd fun K hK => by
    have := hK _ _ h
    unfold Oper.wp execOp
    simp [ho, Instr.alloc, zero29, newVar, newRow, Value.cells, go_sem]
    exact this

theorem alloc_row_at {ops : Array Oper} {rest : List Oper} {o : Oper} {a : Act} {w : World} {Q : Exit → Act → World → Prop} (g : Nat) (hg : w.heap.size = g) (hgd : o.guard = none) (ho : o.op = .alloc 62)
    (h : wpList Try.prog ops Q rest (a.put o.dst (.pointer (some ⟨g, 0, none⟩))) (w.alloc (.cells (bw off) 62))) : wpList Try.prog ops Q (o :: rest) a w := by
  subst hg; exact alloc_row hgd ho h

theorem build_row {ops : Array Oper} {rest : List Oper} {o : Oper} {a : Act} {w : World} {Q : Exit → Act → World → Prop} (hgd : o.guard = none) (ho : o.op = .build 62 #[])
    (h : wpList Try.prog ops Q rest (a.put o.dst (.agg (bw off))) w) : wpList Try.prog ops Q (o :: rest) a w :=
  wpList_plain hgd fun K hK => by
    have := hK _ _ h
    unfold Oper.wp execOp
    simp [ho, run_build _ 62 #[] (bw off) built29]
    exact this

set_option maxHeartbeats 400000 in
theorem rmask_any (a : Int) (n : Nat) (HN : Hid (Wd.wid a = n)) (h2 : n ≤ 64) (w : World) :
    Calls Try.prog 31 #[.int .i64 a] w fun e w' => e = .returned (.int .u64 (Wb.val (Wb.notB n off) 64 : Nat)) ∧ Below w.heap.size w w' := by
  go_enter Try.func31, Try.ntmps31
  go_wp2_with fail
  refine (wd_rwidth_any _ _).mono ?_
  rintro e w' ⟨rfl, rfl⟩
  rw [HN.out]
  go_wp2_with (first
    | (with_reducible refine build_row rfl rfl ?_)
    | fail)
  refine (not_any n off h2 _).mono ?_
  rintro e w1 ⟨rfl, hb1⟩
  go_wp2_with fail
  refine (num_any _ _).mono ?_
  rintro e w2 ⟨rfl, hb2⟩
  go_wp2
  go_ret
  exact ⟨rfl, hb1.trans (hb2.mono hb1.size)⟩

namespace Wb
def qr (n : Nat) (f g : Nat → Bool) : (Nat → Bool) × (Nat → Bool) := if val g 64 = 0 then (notB n off, f) else dv n f g n
end Wb
theorem rdiv_any (n : Nat) (f g : Nat → Bool) (h1 : 1 ≤ n) (h2 : n ≤ 64) (w : World) :
    Calls Try.prog 69 #[.int .i64 n, .agg (bw f), .agg (bw g)] w fun e w' => e = .returned (.tuple #[.agg (bw (Wb.qr n f g).1), .agg (bw (Wb.qr n f g).2)]) ∧ Below w.heap.size w w' := by
  by_cases h : Wb.val g 64 = 0
  · have e : Wb.qr n f g = (Wb.notB n off, f) := if_pos h
    rw [e]; exact div_nought n f g h2 h w
  · have e : Wb.qr n f g = Wb.dv n f g n := if_neg h
    rw [e]; exact div_pos n f g h1 h2 h w

/-! ### two rows held against each other -/
theorem run_part_bool (f : Nat → Bool) (i : Nat) (h : i < 64) (w : World) : (part 4 (bw f) (i * 1)).run Try.prog w = .ok (.bool (f i)) w := by
  rw [Nat.mul_one]
  have hs : (isAgg 4).run Try.prog w = .ok false w := by unfold isAgg; rw [Sem.run_bind, run_underlying Try.underlying4 w]; rfl
  simp [part, hs, bw_get f i h]
theorem run_eqItems_bits (f g : Nat → Bool) (d : Nat) (w : World) : ∀ is : List Nat, (∀ i ∈ is, i < 64) → (Op.eqItems (d + 1) 4 1 (bw f) (bw g) is).run Try.prog w = .ok (is.all fun i => f i == g i) w
  | [], _ => by simp [Op.eqItems]
  | i :: is, h => by
    have ih := run_eqItems_bits f g d w is (fun j hj => h j (List.mem_cons_of_mem _ hj))
    simp only [Op.eqItems, Sem.run_bind, run_part_bool f i (h i (List.mem_cons_self ..)), run_part_bool g i (h i (List.mem_cons_self ..)), Result.andThen_ok, run_equalIn_bool' w d 4 (f i) (g i) Try.underlying4]
    cases hfg : (f i == g i) <;> simp [hfg, ih]
theorem run_eq_rows (f g : Nat → Bool) (w : World) : (Op.equalIn 10000 62 (.agg (bw f)) (.agg (bw g))).run Try.prog w = .ok ((List.range 64).all fun i => f i == g i) w := by
  have hc : Try.prog.cellsOf 4 = 1 := by kernel_rfl
  have hs : (Try.prog.info? 4).isSome = true := by kernel_rfl
  have hi := Option.isSome_iff_exists.1 hs
  obtain ⟨i, hi⟩ := hi
  have := run_equalIn_array (P := Try.prog) (w := w) 9999 (bw f) (bw g) Try.underlying62 hi
  rw [this, hc]
  exact run_eqItems_bits f g 9998 w _ (fun j hj => by simpa using hj)
end Go.Proofs.Ytbjckcjfambpoaa
namespace Go.Proofs.Ytbjckcjfambpoaa
set_option linter.unusedSimpArgs false
set_option linter.unusedVariables false
set_option maxRecDepth 100000
open Go.RowKit

set_option maxRecDepth 100000 in
set_option maxHeartbeats 2000000 in
theorem rap_none (op : Int) (a : Int) (x y n : Nat) (f g q r : Nat → Bool) (HN : Hid (Wd.wid a = n)) (HF : Hid (Wb.ofB n x = f)) (HG : Hid (Wb.ofB n y = g)) (HQ : Hid ((Wb.qr n f g).1 = q)) (HR : Hid ((Wb.qr n f g).2 = r)) (hx : x < 18446744073709551616) (hy : y < 18446744073709551616) (h1 : 1 ≤ n) (h2 : n ≤ 64) (o5 : (op == 5) = false) (o8 : (op == 8) = false) (o9 : (op == 9) = false) (o10 : (op == 10) = false) (o11 : (op == 11) = false) (o12 : (op == 12) = false) (o13 : (op == 13) = false) (o14 : (op == 14) = false) (o15 : (op == 15) = false) (o16 : (op == 16) = false) (o17 : (op == 17) = false) (o18 : (op == 18) = false) (o19 : (op == 19) = false) (o20 : (op == 20) = false) (o21 : (op == 21) = false) (w : World) :
    Calls Try.prog 32 #[.int .i64 op, .int .i64 a, .int .u64 x, .int .u64 y] w fun e w' => e = .returned (.int .u64 0) ∧ Below w.heap.size w w' := by
  go_enter Try.func32, Try.ntmps32
  go_wp2_with fail
  refine (wd_rwidth_any _ _).mono ?_
  rintro e w' ⟨rfl, rfl⟩
  rw [HN.out]
  go_wp2_with fail
  refine (of_any n x h2 hx _).mono ?_
  rintro e w1 ⟨rfl, hb1⟩
  rw [HF.out]
  go_wp2_with fail
  refine (of_any n y h2 hy _).mono ?_
  rintro e w2 ⟨rfl, hb2⟩
  rw [HG.out]
  have hs1 := hb1.size
  have hs2 := hb2.size
  have hbb := hb1.trans (hb2.mono hs1)
  have t0 := (Row.new w2 off).alloc (.cells (bw off) 62)
  have t1 := Row.new_at (w2.alloc (.cells (bw off) 62)) off (g := w2.heap.size + 1) (by simp)
  have u0 := t0.row_same f
  have u1 := t1.row_other (k := w2.heap.size) (by omega) (bw f)
  have v0 := u0.row_other (k := w2.heap.size + 1) (by omega) (bw g)
  have v1 := u1.row_same g
  have vb := below_setRow (below_setRow ((hbb.alloc (by omega) (.cells (bw off) 62)).alloc (by simp; omega) (.cells (bw off) 62)) (show w.heap.size ≤ w2.heap.size by omega) (bw f)) (show w.heap.size ≤ w2.heap.size + 1 by omega) (bw g)
  go_upto_region 3 with (first
    | (with_reducible refine alloc_row_at w2.heap.size rfl rfl rfl ?_)
    | (with_reducible refine alloc_row_at (w2.heap.size + 1) (by simp) rfl rfl ?_)
    | (with_reducible refine store_row (.tmp 10) (.tmp 18) _ _ f t0 rfl rfl rfl rfl ?_)
    | (with_reducible refine store_row (.tmp 11) (.tmp 21) _ _ g u1 rfl rfl rfl rfl ?_)
    | fail)
  clear t0 t1 u0 u1 hb1 hb2 hbb
  generalize (((w2.alloc (.cells (bw off) 62)).alloc (.cells (bw off) 62)).setRow w2.heap.size (bw f)).setRow (w2.heap.size + 1) (bw g) = W at *
  generalize w2.heap.size = G at *
  clear hs1 hs2
  go_wp2_with (first
    | (with_reducible refine load_row (.tmp 10) _ _ v0 rfl rfl rfl ?_)
    | (with_reducible refine load_row (.tmp 11) _ _ v1 rfl rfl rfl ?_)
    | fail)
  refine (rdiv_any n f g h1 h2 _).mono ?_
  rintro e w3 ⟨rfl, hb3⟩
  rw [HQ.out, HR.out]
  have x0 := ((v0.below hb3 v0.lt).alloc (.cells (bw off) 62)).alloc (.cells (bw off) 62)
  have x1 := ((v1.below hb3 v1.lt).alloc (.cells (bw off) 62)).alloc (.cells (bw off) 62)
  have l1 : G + 1 < w3.heap.size := by have := v1.lt; have := hb3.size; omega
  have hs3 : w.heap.size ≤ w3.heap.size := by have := hb3.size; have := vb.size; omega
  have t2 := (Row.new w3 off).alloc (.cells (bw off) 62)
  have t3 := Row.new_at (w3.alloc (.cells (bw off) 62)) off (g := w3.heap.size + 1) (by simp)
  have u3 := t3.row_other (k := w3.heap.size) (by omega) (bw q)
  have y0 := (x0.row_other (k := w3.heap.size) (by omega) (bw q)).row_other (k := w3.heap.size + 1) (by omega) (bw r)
  have y1 := (x1.row_other (k := w3.heap.size) (by omega) (bw q)).row_other (k := w3.heap.size + 1) (by omega) (bw r)
  have y2 := (t2.row_same q).row_other (k := w3.heap.size + 1) (by omega) (bw r)
  have y3 := u3.row_same r
  have yb := below_setRow (below_setRow ((((vb.trans (hb3.mono vb.size)).alloc (by omega) (.cells (bw off) 62)).alloc (by simp; omega) (.cells (bw off) 62))) (show w.heap.size ≤ w3.heap.size by omega) (bw q)) (show w.heap.size ≤ w3.heap.size + 1 by omega) (bw r)
  go_upto_region 4 with (first
    | (with_reducible refine alloc_row_at w3.heap.size rfl rfl rfl ?_)
    | (with_reducible refine alloc_row_at (w3.heap.size + 1) (by simp) rfl rfl ?_)
    | (with_reducible refine store_row (.tmp 12) (.tmp 27) _ _ q t2 rfl rfl rfl rfl ?_)
    | (with_reducible refine store_row (.tmp 13) (.tmp 28) _ _ r u3 rfl rfl rfl rfl ?_)
    | fail)
  clear t2 t3 u3 x0 x1 v0 v1 hb3 vb hs3
  generalize (((w3.alloc (.cells (bw off) 62)).alloc (.cells (bw off) 62)).setRow w3.heap.size (bw q)).setRow (w3.heap.size + 1) (bw r) = V at *
  generalize w3.heap.size = H at *
  clear W
  go_wp2
  go_ret
  exact ⟨rfl, yb⟩

set_option maxRecDepth 100000 in
set_option maxHeartbeats 2000000 in
theorem rap_not (a : Int) (x y n : Nat) (f g q r : Nat → Bool) (HN : Hid (Wd.wid a = n)) (HF : Hid (Wb.ofB n x = f)) (HG : Hid (Wb.ofB n y = g)) (HQ : Hid ((Wb.qr n f g).1 = q)) (HR : Hid ((Wb.qr n f g).2 = r)) (hx : x < 18446744073709551616) (hy : y < 18446744073709551616) (h1 : 1 ≤ n) (h2 : n ≤ 64) (w : World) :
    Calls Try.prog 32 #[.int .i64 5, .int .i64 a, .int .u64 x, .int .u64 y] w fun e w' => e = .returned (.int .u64 (Wb.val (Wb.notB n f) 64 : Nat)) ∧ Below w.heap.size w w' := by
  go_enter Try.func32, Try.ntmps32
  go_wp2_with fail
  refine (wd_rwidth_any _ _).mono ?_
  rintro e w' ⟨rfl, rfl⟩
  rw [HN.out]
  go_wp2_with fail
  refine (of_any n x h2 hx _).mono ?_
  rintro e w1 ⟨rfl, hb1⟩
  rw [HF.out]
  go_wp2_with fail
  refine (of_any n y h2 hy _).mono ?_
  rintro e w2 ⟨rfl, hb2⟩
  rw [HG.out]
  have hs1 := hb1.size
  have hs2 := hb2.size
  have hbb := hb1.trans (hb2.mono hs1)
  have t0 := (Row.new w2 off).alloc (.cells (bw off) 62)
  have t1 := Row.new_at (w2.alloc (.cells (bw off) 62)) off (g := w2.heap.size + 1) (by simp)
  have u0 := t0.row_same f
  have u1 := t1.row_other (k := w2.heap.size) (by omega) (bw f)
  have v0 := u0.row_other (k := w2.heap.size + 1) (by omega) (bw g)
  have v1 := u1.row_same g
  have vb := below_setRow (below_setRow ((hbb.alloc (by omega) (.cells (bw off) 62)).alloc (by simp; omega) (.cells (bw off) 62)) (show w.heap.size ≤ w2.heap.size by omega) (bw f)) (show w.heap.size ≤ w2.heap.size + 1 by omega) (bw g)
  go_upto_region 3 with (first
    | (with_reducible refine alloc_row_at w2.heap.size rfl rfl rfl ?_)
    | (with_reducible refine alloc_row_at (w2.heap.size + 1) (by simp) rfl rfl ?_)
    | (with_reducible refine store_row (.tmp 10) (.tmp 18) _ _ f t0 rfl rfl rfl rfl ?_)
    | (with_reducible refine store_row (.tmp 11) (.tmp 21) _ _ g u1 rfl rfl rfl rfl ?_)
    | fail)
  clear t0 t1 u0 u1 hb1 hb2 hbb
  generalize (((w2.alloc (.cells (bw off) 62)).alloc (.cells (bw off) 62)).setRow w2.heap.size (bw f)).setRow (w2.heap.size + 1) (bw g) = W at *
  generalize w2.heap.size = G at *
  clear hs1 hs2
  go_wp2_with (first
    | (with_reducible refine load_row (.tmp 10) _ _ v0 rfl rfl rfl ?_)
    | (with_reducible refine load_row (.tmp 11) _ _ v1 rfl rfl rfl ?_)
    | fail)
  refine (rdiv_any n f g h1 h2 _).mono ?_
  rintro e w3 ⟨rfl, hb3⟩
  rw [HQ.out, HR.out]
  have x0 := ((v0.below hb3 v0.lt).alloc (.cells (bw off) 62)).alloc (.cells (bw off) 62)
  have x1 := ((v1.below hb3 v1.lt).alloc (.cells (bw off) 62)).alloc (.cells (bw off) 62)
  have l1 : G + 1 < w3.heap.size := by have := v1.lt; have := hb3.size; omega
  have hs3 : w.heap.size ≤ w3.heap.size := by have := hb3.size; have := vb.size; omega
  have t2 := (Row.new w3 off).alloc (.cells (bw off) 62)
  have t3 := Row.new_at (w3.alloc (.cells (bw off) 62)) off (g := w3.heap.size + 1) (by simp)
  have u3 := t3.row_other (k := w3.heap.size) (by omega) (bw q)
  have y0 := (x0.row_other (k := w3.heap.size) (by omega) (bw q)).row_other (k := w3.heap.size + 1) (by omega) (bw r)
  have y1 := (x1.row_other (k := w3.heap.size) (by omega) (bw q)).row_other (k := w3.heap.size + 1) (by omega) (bw r)
  have y2 := (t2.row_same q).row_other (k := w3.heap.size + 1) (by omega) (bw r)
  have y3 := u3.row_same r
  have yb := below_setRow (below_setRow ((((vb.trans (hb3.mono vb.size)).alloc (by omega) (.cells (bw off) 62)).alloc (by simp; omega) (.cells (bw off) 62))) (show w.heap.size ≤ w3.heap.size by omega) (bw q)) (show w.heap.size ≤ w3.heap.size + 1 by omega) (bw r)
  go_upto_region 4 with (first
    | (with_reducible refine alloc_row_at w3.heap.size rfl rfl rfl ?_)
    | (with_reducible refine alloc_row_at (w3.heap.size + 1) (by simp) rfl rfl ?_)
    | (with_reducible refine store_row (.tmp 12) (.tmp 27) _ _ q t2 rfl rfl rfl rfl ?_)
    | (with_reducible refine store_row (.tmp 13) (.tmp 28) _ _ r u3 rfl rfl rfl rfl ?_)
    | fail)
  clear t2 t3 u3 x0 x1 v0 v1 hb3 vb hs3
  generalize (((w3.alloc (.cells (bw off) 62)).alloc (.cells (bw off) 62)).setRow w3.heap.size (bw q)).setRow (w3.heap.size + 1) (bw r) = V at *
  generalize w3.heap.size = H at *
  clear W
  go_wp2_with (first
    | (with_reducible refine load_row (.tmp 10) _ _ y0 rfl rfl rfl ?_)
    | (with_reducible refine load_row (.tmp 11) _ _ y1 rfl rfl rfl ?_)
    | fail)
  refine (not_any n f h2 _).mono ?_
  rintro e w4 ⟨rfl, b4⟩
  go_wp2_with fail
  refine (num_any _ _).mono ?_
  rintro e w5 ⟨rfl, b5⟩
  go_wp2
  go_ret
  have hb := yb.trans (b4.mono yb.size)
  exact ⟨rfl, hb.trans (b5.mono hb.size)⟩

set_option maxRecDepth 100000 in
set_option maxHeartbeats 2000000 in
theorem rap_add (a : Int) (x y n : Nat) (f g q r : Nat → Bool) (HN : Hid (Wd.wid a = n)) (HF : Hid (Wb.ofB n x = f)) (HG : Hid (Wb.ofB n y = g)) (HQ : Hid ((Wb.qr n f g).1 = q)) (HR : Hid ((Wb.qr n f g).2 = r)) (hx : x < 18446744073709551616) (hy : y < 18446744073709551616) (h1 : 1 ≤ n) (h2 : n ≤ 64) (w : World) :
    Calls Try.prog 32 #[.int .i64 8, .int .i64 a, .int .u64 x, .int .u64 y] w fun e w' => e = .returned (.int .u64 (Wb.val (Wb.addB n f g false) 64 : Nat)) ∧ Below w.heap.size w w' := by
  go_enter Try.func32, Try.ntmps32
  go_wp2_with fail
  refine (wd_rwidth_any _ _).mono ?_
  rintro e w' ⟨rfl, rfl⟩
  rw [HN.out]
  go_wp2_with fail
  refine (of_any n x h2 hx _).mono ?_
  rintro e w1 ⟨rfl, hb1⟩
  rw [HF.out]
  go_wp2_with fail
  refine (of_any n y h2 hy _).mono ?_
  rintro e w2 ⟨rfl, hb2⟩
  rw [HG.out]
  have hs1 := hb1.size
  have hs2 := hb2.size
  have hbb := hb1.trans (hb2.mono hs1)
  have t0 := (Row.new w2 off).alloc (.cells (bw off) 62)
  have t1 := Row.new_at (w2.alloc (.cells (bw off) 62)) off (g := w2.heap.size + 1) (by simp)
  have u0 := t0.row_same f
  have u1 := t1.row_other (k := w2.heap.size) (by omega) (bw f)
  have v0 := u0.row_other (k := w2.heap.size + 1) (by omega) (bw g)
  have v1 := u1.row_same g
  have vb := below_setRow (below_setRow ((hbb.alloc (by omega) (.cells (bw off) 62)).alloc (by simp; omega) (.cells (bw off) 62)) (show w.heap.size ≤ w2.heap.size by omega) (bw f)) (show w.heap.size ≤ w2.heap.size + 1 by omega) (bw g)
  go_upto_region 3 with (first
    | (with_reducible refine alloc_row_at w2.heap.size rfl rfl rfl ?_)
    | (with_reducible refine alloc_row_at (w2.heap.size + 1) (by simp) rfl rfl ?_)
    | (with_reducible refine store_row (.tmp 10) (.tmp 18) _ _ f t0 rfl rfl rfl rfl ?_)
    | (with_reducible refine store_row (.tmp 11) (.tmp 21) _ _ g u1 rfl rfl rfl rfl ?_)
    | fail)
  clear t0 t1 u0 u1 hb1 hb2 hbb
  generalize (((w2.alloc (.cells (bw off) 62)).alloc (.cells (bw off) 62)).setRow w2.heap.size (bw f)).setRow (w2.heap.size + 1) (bw g) = W at *
  generalize w2.heap.size = G at *
  clear hs1 hs2
  go_wp2_with (first
    | (with_reducible refine load_row (.tmp 10) _ _ v0 rfl rfl rfl ?_)
    | (with_reducible refine load_row (.tmp 11) _ _ v1 rfl rfl rfl ?_)
    | fail)
  refine (rdiv_any n f g h1 h2 _).mono ?_
  rintro e w3 ⟨rfl, hb3⟩
  rw [HQ.out, HR.out]
  have x0 := ((v0.below hb3 v0.lt).alloc (.cells (bw off) 62)).alloc (.cells (bw off) 62)
  have x1 := ((v1.below hb3 v1.lt).alloc (.cells (bw off) 62)).alloc (.cells (bw off) 62)
  have l1 : G + 1 < w3.heap.size := by have := v1.lt; have := hb3.size; omega
  have hs3 : w.heap.size ≤ w3.heap.size := by have := hb3.size; have := vb.size; omega
  have t2 := (Row.new w3 off).alloc (.cells (bw off) 62)
  have t3 := Row.new_at (w3.alloc (.cells (bw off) 62)) off (g := w3.heap.size + 1) (by simp)
  have u3 := t3.row_other (k := w3.heap.size) (by omega) (bw q)
  have y0 := (x0.row_other (k := w3.heap.size) (by omega) (bw q)).row_other (k := w3.heap.size + 1) (by omega) (bw r)
  have y1 := (x1.row_other (k := w3.heap.size) (by omega) (bw q)).row_other (k := w3.heap.size + 1) (by omega) (bw r)
  have y2 := (t2.row_same q).row_other (k := w3.heap.size + 1) (by omega) (bw r)
  have y3 := u3.row_same r
  have yb := below_setRow (below_setRow ((((vb.trans (hb3.mono vb.size)).alloc (by omega) (.cells (bw off) 62)).alloc (by simp; omega) (.cells (bw off) 62))) (show w.heap.size ≤ w3.heap.size by omega) (bw q)) (show w.heap.size ≤ w3.heap.size + 1 by omega) (bw r)
  go_upto_region 4 with (first
    | (with_reducible refine alloc_row_at w3.heap.size rfl rfl rfl ?_)
    | (with_reducible refine alloc_row_at (w3.heap.size + 1) (by simp) rfl rfl ?_)
    | (with_reducible refine store_row (.tmp 12) (.tmp 27) _ _ q t2 rfl rfl rfl rfl ?_)
    | (with_reducible refine store_row (.tmp 13) (.tmp 28) _ _ r u3 rfl rfl rfl rfl ?_)
    | fail)
  clear t2 t3 u3 x0 x1 v0 v1 hb3 vb hs3
  generalize (((w3.alloc (.cells (bw off) 62)).alloc (.cells (bw off) 62)).setRow w3.heap.size (bw q)).setRow (w3.heap.size + 1) (bw r) = V at *
  generalize w3.heap.size = H at *
  clear W
  go_wp2_with (first
    | (with_reducible refine load_row (.tmp 10) _ _ y0 rfl rfl rfl ?_)
    | (with_reducible refine load_row (.tmp 11) _ _ y1 rfl rfl rfl ?_)
    | fail)
  refine (add_any n f g false h2 _).mono ?_
  rintro e w4 ⟨rfl, b4⟩
  go_wp2_with fail
  refine (num_any _ _).mono ?_
  rintro e w5 ⟨rfl, b5⟩
  go_wp2
  go_ret
  have hb := yb.trans (b4.mono yb.size)
  exact ⟨rfl, hb.trans (b5.mono hb.size)⟩

set_option maxRecDepth 100000 in
set_option maxHeartbeats 2000000 in
theorem rap_mul (a : Int) (x y n : Nat) (f g q r : Nat → Bool) (HN : Hid (Wd.wid a = n)) (HF : Hid (Wb.ofB n x = f)) (HG : Hid (Wb.ofB n y = g)) (HQ : Hid ((Wb.qr n f g).1 = q)) (HR : Hid ((Wb.qr n f g).2 = r)) (hx : x < 18446744073709551616) (hy : y < 18446744073709551616) (h1 : 1 ≤ n) (h2 : n ≤ 64) (w : World) :
    Calls Try.prog 32 #[.int .i64 10, .int .i64 a, .int .u64 x, .int .u64 y] w fun e w' => e = .returned (.int .u64 (Wb.val (Wb.mulO n f g n) 64 : Nat)) ∧ Below w.heap.size w w' := by
  go_enter Try.func32, Try.ntmps32
  go_wp2_with fail
  refine (wd_rwidth_any _ _).mono ?_
  rintro e w' ⟨rfl, rfl⟩
  rw [HN.out]
  go_wp2_with fail
  refine (of_any n x h2 hx _).mono ?_
  rintro e w1 ⟨rfl, hb1⟩
  rw [HF.out]
  go_wp2_with fail
  refine (of_any n y h2 hy _).mono ?_
  rintro e w2 ⟨rfl, hb2⟩
  rw [HG.out]
  have hs1 := hb1.size
  have hs2 := hb2.size
  have hbb := hb1.trans (hb2.mono hs1)
  have t0 := (Row.new w2 off).alloc (.cells (bw off) 62)
  have t1 := Row.new_at (w2.alloc (.cells (bw off) 62)) off (g := w2.heap.size + 1) (by simp)
  have u0 := t0.row_same f
  have u1 := t1.row_other (k := w2.heap.size) (by omega) (bw f)
  have v0 := u0.row_other (k := w2.heap.size + 1) (by omega) (bw g)
  have v1 := u1.row_same g
  have vb := below_setRow (below_setRow ((hbb.alloc (by omega) (.cells (bw off) 62)).alloc (by simp; omega) (.cells (bw off) 62)) (show w.heap.size ≤ w2.heap.size by omega) (bw f)) (show w.heap.size ≤ w2.heap.size + 1 by omega) (bw g)
  go_upto_region 3 with (first
    | (with_reducible refine alloc_row_at w2.heap.size rfl rfl rfl ?_)
    | (with_reducible refine alloc_row_at (w2.heap.size + 1) (by simp) rfl rfl ?_)
    | (with_reducible refine store_row (.tmp 10) (.tmp 18) _ _ f t0 rfl rfl rfl rfl ?_)
    | (with_reducible refine store_row (.tmp 11) (.tmp 21) _ _ g u1 rfl rfl rfl rfl ?_)
    | fail)
  clear t0 t1 u0 u1 hb1 hb2 hbb
  generalize (((w2.alloc (.cells (bw off) 62)).alloc (.cells (bw off) 62)).setRow w2.heap.size (bw f)).setRow (w2.heap.size + 1) (bw g) = W at *
  generalize w2.heap.size = G at *
  clear hs1 hs2
  go_wp2_with (first
    | (with_reducible refine load_row (.tmp 10) _ _ v0 rfl rfl rfl ?_)
    | (with_reducible refine load_row (.tmp 11) _ _ v1 rfl rfl rfl ?_)
    | fail)
  refine (rdiv_any n f g h1 h2 _).mono ?_
  rintro e w3 ⟨rfl, hb3⟩
  rw [HQ.out, HR.out]
  have x0 := ((v0.below hb3 v0.lt).alloc (.cells (bw off) 62)).alloc (.cells (bw off) 62)
  have x1 := ((v1.below hb3 v1.lt).alloc (.cells (bw off) 62)).alloc (.cells (bw off) 62)
  have l1 : G + 1 < w3.heap.size := by have := v1.lt; have := hb3.size; omega
  have hs3 : w.heap.size ≤ w3.heap.size := by have := hb3.size; have := vb.size; omega
  have t2 := (Row.new w3 off).alloc (.cells (bw off) 62)
  have t3 := Row.new_at (w3.alloc (.cells (bw off) 62)) off (g := w3.heap.size + 1) (by simp)
  have u3 := t3.row_other (k := w3.heap.size) (by omega) (bw q)
  have y0 := (x0.row_other (k := w3.heap.size) (by omega) (bw q)).row_other (k := w3.heap.size + 1) (by omega) (bw r)
  have y1 := (x1.row_other (k := w3.heap.size) (by omega) (bw q)).row_other (k := w3.heap.size + 1) (by omega) (bw r)
  have y2 := (t2.row_same q).row_other (k := w3.heap.size + 1) (by omega) (bw r)
  have y3 := u3.row_same r
  have yb := below_setRow (below_setRow ((((vb.trans (hb3.mono vb.size)).alloc (by omega) (.cells (bw off) 62)).alloc (by simp; omega) (.cells (bw off) 62))) (show w.heap.size ≤ w3.heap.size by omega) (bw q)) (show w.heap.size ≤ w3.heap.size + 1 by omega) (bw r)
  go_upto_region 4 with (first
    | (with_reducible refine alloc_row_at w3.heap.size rfl rfl rfl ?_)
    | (with_reducible refine alloc_row_at (w3.heap.size + 1) (by simp) rfl rfl ?_)
    | (with_reducible refine store_row (.tmp 12) (.tmp 27) _ _ q t2 rfl rfl rfl rfl ?_)
    | (with_reducible refine store_row (.tmp 13) (.tmp 28) _ _ r u3 rfl rfl rfl rfl ?_)
    | fail)
  clear t2 t3 u3 x0 x1 v0 v1 hb3 vb hs3
  generalize (((w3.alloc (.cells (bw off) 62)).alloc (.cells (bw off) 62)).setRow w3.heap.size (bw q)).setRow (w3.heap.size + 1) (bw r) = V at *
  generalize w3.heap.size = H at *
  clear W
  go_wp2_with (first
    | (with_reducible refine load_row (.tmp 10) _ _ y0 rfl rfl rfl ?_)
    | (with_reducible refine load_row (.tmp 11) _ _ y1 rfl rfl rfl ?_)
    | fail)
  refine (mul_any n f g h1 h2 _).mono ?_
  rintro e w4 ⟨rfl, b4⟩
  go_wp2_with fail
  refine (num_any _ _).mono ?_
  rintro e w5 ⟨rfl, b5⟩
  go_wp2
  go_ret
  have hb := yb.trans (b4.mono yb.size)
  exact ⟨rfl, hb.trans (b5.mono hb.size)⟩

set_option maxRecDepth 100000 in
set_option maxHeartbeats 2000000 in
theorem rap_div (a : Int) (x y n : Nat) (f g q r : Nat → Bool) (HN : Hid (Wd.wid a = n)) (HF : Hid (Wb.ofB n x = f)) (HG : Hid (Wb.ofB n y = g)) (HQ : Hid ((Wb.qr n f g).1 = q)) (HR : Hid ((Wb.qr n f g).2 = r)) (hx : x < 18446744073709551616) (hy : y < 18446744073709551616) (h1 : 1 ≤ n) (h2 : n ≤ 64) (w : World) :
    Calls Try.prog 32 #[.int .i64 11, .int .i64 a, .int .u64 x, .int .u64 y] w fun e w' => e = .returned (.int .u64 (Wb.val q 64 : Nat)) ∧ Below w.heap.size w w' := by
  go_enter Try.func32, Try.ntmps32
  go_wp2_with fail
  refine (wd_rwidth_any _ _).mono ?_
  rintro e w' ⟨rfl, rfl⟩
  rw [HN.out]
  go_wp2_with fail
  refine (of_any n x h2 hx _).mono ?_
  rintro e w1 ⟨rfl, hb1⟩
  rw [HF.out]
  go_wp2_with fail
  refine (of_any n y h2 hy _).mono ?_
  rintro e w2 ⟨rfl, hb2⟩
  rw [HG.out]
  have hs1 := hb1.size
  have hs2 := hb2.size
  have hbb := hb1.trans (hb2.mono hs1)
  have t0 := (Row.new w2 off).alloc (.cells (bw off) 62)
  have t1 := Row.new_at (w2.alloc (.cells (bw off) 62)) off (g := w2.heap.size + 1) (by simp)
  have u0 := t0.row_same f
  have u1 := t1.row_other (k := w2.heap.size) (by omega) (bw f)
  have v0 := u0.row_other (k := w2.heap.size + 1) (by omega) (bw g)
  have v1 := u1.row_same g
  have vb := below_setRow (below_setRow ((hbb.alloc (by omega) (.cells (bw off) 62)).alloc (by simp; omega) (.cells (bw off) 62)) (show w.heap.size ≤ w2.heap.size by omega) (bw f)) (show w.heap.size ≤ w2.heap.size + 1 by omega) (bw g)
  go_upto_region 3 with (first
    | (with_reducible refine alloc_row_at w2.heap.size rfl rfl rfl ?_)
    | (with_reducible refine alloc_row_at (w2.heap.size + 1) (by simp) rfl rfl ?_)
    | (with_reducible refine store_row (.tmp 10) (.tmp 18) _ _ f t0 rfl rfl rfl rfl ?_)
    | (with_reducible refine store_row (.tmp 11) (.tmp 21) _ _ g u1 rfl rfl rfl rfl ?_)
    | fail)
  clear t0 t1 u0 u1 hb1 hb2 hbb
  generalize (((w2.alloc (.cells (bw off) 62)).alloc (.cells (bw off) 62)).setRow w2.heap.size (bw f)).setRow (w2.heap.size + 1) (bw g) = W at *
  generalize w2.heap.size = G at *
  clear hs1 hs2
  go_wp2_with (first
    | (with_reducible refine load_row (.tmp 10) _ _ v0 rfl rfl rfl ?_)
    | (with_reducible refine load_row (.tmp 11) _ _ v1 rfl rfl rfl ?_)
    | fail)
  refine (rdiv_any n f g h1 h2 _).mono ?_
  rintro e w3 ⟨rfl, hb3⟩
  rw [HQ.out, HR.out]
  have x0 := ((v0.below hb3 v0.lt).alloc (.cells (bw off) 62)).alloc (.cells (bw off) 62)
  have x1 := ((v1.below hb3 v1.lt).alloc (.cells (bw off) 62)).alloc (.cells (bw off) 62)
  have l1 : G + 1 < w3.heap.size := by have := v1.lt; have := hb3.size; omega
  have hs3 : w.heap.size ≤ w3.heap.size := by have := hb3.size; have := vb.size; omega
  have t2 := (Row.new w3 off).alloc (.cells (bw off) 62)
  have t3 := Row.new_at (w3.alloc (.cells (bw off) 62)) off (g := w3.heap.size + 1) (by simp)
  have u3 := t3.row_other (k := w3.heap.size) (by omega) (bw q)
  have y0 := (x0.row_other (k := w3.heap.size) (by omega) (bw q)).row_other (k := w3.heap.size + 1) (by omega) (bw r)
  have y1 := (x1.row_other (k := w3.heap.size) (by omega) (bw q)).row_other (k := w3.heap.size + 1) (by omega) (bw r)
  have y2 := (t2.row_same q).row_other (k := w3.heap.size + 1) (by omega) (bw r)
  have y3 := u3.row_same r
  have yb := below_setRow (below_setRow ((((vb.trans (hb3.mono vb.size)).alloc (by omega) (.cells (bw off) 62)).alloc (by simp; omega) (.cells (bw off) 62))) (show w.heap.size ≤ w3.heap.size by omega) (bw q)) (show w.heap.size ≤ w3.heap.size + 1 by omega) (bw r)
  go_upto_region 4 with (first
    | (with_reducible refine alloc_row_at w3.heap.size rfl rfl rfl ?_)
    | (with_reducible refine alloc_row_at (w3.heap.size + 1) (by simp) rfl rfl ?_)
    | (with_reducible refine store_row (.tmp 12) (.tmp 27) _ _ q t2 rfl rfl rfl rfl ?_)
    | (with_reducible refine store_row (.tmp 13) (.tmp 28) _ _ r u3 rfl rfl rfl rfl ?_)
    | fail)
  clear t2 t3 u3 x0 x1 v0 v1 hb3 vb hs3
  generalize (((w3.alloc (.cells (bw off) 62)).alloc (.cells (bw off) 62)).setRow w3.heap.size (bw q)).setRow (w3.heap.size + 1) (bw r) = V at *
  generalize w3.heap.size = H at *
  clear W
  go_wp2_with (first
    | (with_reducible refine load_row (.tmp 12) _ _ y2 rfl rfl rfl ?_)
    | fail)
  refine (num_any _ _).mono ?_
  rintro e w5 ⟨rfl, b5⟩
  go_wp2
  go_ret
  exact ⟨rfl, yb.trans (b5.mono yb.size)⟩

set_option maxRecDepth 100000 in
set_option maxHeartbeats 2000000 in
theorem rap_rem (a : Int) (x y n : Nat) (f g q r : Nat → Bool) (HN : Hid (Wd.wid a = n)) (HF : Hid (Wb.ofB n x = f)) (HG : Hid (Wb.ofB n y = g)) (HQ : Hid ((Wb.qr n f g).1 = q)) (HR : Hid ((Wb.qr n f g).2 = r)) (hx : x < 18446744073709551616) (hy : y < 18446744073709551616) (h1 : 1 ≤ n) (h2 : n ≤ 64) (w : World) :
    Calls Try.prog 32 #[.int .i64 12, .int .i64 a, .int .u64 x, .int .u64 y] w fun e w' => e = .returned (.int .u64 (Wb.val r 64 : Nat)) ∧ Below w.heap.size w w' := by
  go_enter Try.func32, Try.ntmps32
  go_wp2_with fail
  refine (wd_rwidth_any _ _).mono ?_
  rintro e w' ⟨rfl, rfl⟩
  rw [HN.out]
  go_wp2_with fail
  refine (of_any n x h2 hx _).mono ?_
  rintro e w1 ⟨rfl, hb1⟩
  rw [HF.out]
  go_wp2_with fail
  refine (of_any n y h2 hy _).mono ?_
  rintro e w2 ⟨rfl, hb2⟩
  rw [HG.out]
  have hs1 := hb1.size
  have hs2 := hb2.size
  have hbb := hb1.trans (hb2.mono hs1)
  have t0 := (Row.new w2 off).alloc (.cells (bw off) 62)
  have t1 := Row.new_at (w2.alloc (.cells (bw off) 62)) off (g := w2.heap.size + 1) (by simp)
  have u0 := t0.row_same f
  have u1 := t1.row_other (k := w2.heap.size) (by omega) (bw f)
  have v0 := u0.row_other (k := w2.heap.size + 1) (by omega) (bw g)
  have v1 := u1.row_same g
  have vb := below_setRow (below_setRow ((hbb.alloc (by omega) (.cells (bw off) 62)).alloc (by simp; omega) (.cells (bw off) 62)) (show w.heap.size ≤ w2.heap.size by omega) (bw f)) (show w.heap.size ≤ w2.heap.size + 1 by omega) (bw g)
  go_upto_region 3 with (first
    | (with_reducible refine alloc_row_at w2.heap.size rfl rfl rfl ?_)
    | (with_reducible refine alloc_row_at (w2.heap.size + 1) (by simp) rfl rfl ?_)
    | (with_reducible refine store_row (.tmp 10) (.tmp 18) _ _ f t0 rfl rfl rfl rfl ?_)
    | (with_reducible refine store_row (.tmp 11) (.tmp 21) _ _ g u1 rfl rfl rfl rfl ?_)
    | fail)
  clear t0 t1 u0 u1 hb1 hb2 hbb
  generalize (((w2.alloc (.cells (bw off) 62)).alloc (.cells (bw off) 62)).setRow w2.heap.size (bw f)).setRow (w2.heap.size + 1) (bw g) = W at *
  generalize w2.heap.size = G at *
  clear hs1 hs2
  go_wp2_with (first
    | (with_reducible refine load_row (.tmp 10) _ _ v0 rfl rfl rfl ?_)
    | (with_reducible refine load_row (.tmp 11) _ _ v1 rfl rfl rfl ?_)
    | fail)
  refine (rdiv_any n f g h1 h2 _).mono ?_
  rintro e w3 ⟨rfl, hb3⟩
  rw [HQ.out, HR.out]
  have x0 := ((v0.below hb3 v0.lt).alloc (.cells (bw off) 62)).alloc (.cells (bw off) 62)
  have x1 := ((v1.below hb3 v1.lt).alloc (.cells (bw off) 62)).alloc (.cells (bw off) 62)
  have l1 : G + 1 < w3.heap.size := by have := v1.lt; have := hb3.size; omega
  have hs3 : w.heap.size ≤ w3.heap.size := by have := hb3.size; have := vb.size; omega
  have t2 := (Row.new w3 off).alloc (.cells (bw off) 62)
  have t3 := Row.new_at (w3.alloc (.cells (bw off) 62)) off (g := w3.heap.size + 1) (by simp)
  have u3 := t3.row_other (k := w3.heap.size) (by omega) (bw q)
  have y0 := (x0.row_other (k := w3.heap.size) (by omega) (bw q)).row_other (k := w3.heap.size + 1) (by omega) (bw r)
  have y1 := (x1.row_other (k := w3.heap.size) (by omega) (bw q)).row_other (k := w3.heap.size + 1) (by omega) (bw r)
  have y2 := (t2.row_same q).row_other (k := w3.heap.size + 1) (by omega) (bw r)
  have y3 := u3.row_same r
  have yb := below_setRow (below_setRow ((((vb.trans (hb3.mono vb.size)).alloc (by omega) (.cells (bw off) 62)).alloc (by simp; omega) (.cells (bw off) 62))) (show w.heap.size ≤ w3.heap.size by omega) (bw q)) (show w.heap.size ≤ w3.heap.size + 1 by omega) (bw r)
  go_upto_region 4 with (first
    | (with_reducible refine alloc_row_at w3.heap.size rfl rfl rfl ?_)
    | (with_reducible refine alloc_row_at (w3.heap.size + 1) (by simp) rfl rfl ?_)
    | (with_reducible refine store_row (.tmp 12) (.tmp 27) _ _ q t2 rfl rfl rfl rfl ?_)
    | (with_reducible refine store_row (.tmp 13) (.tmp 28) _ _ r u3 rfl rfl rfl rfl ?_)
    | fail)
  clear t2 t3 u3 x0 x1 v0 v1 hb3 vb hs3
  generalize (((w3.alloc (.cells (bw off) 62)).alloc (.cells (bw off) 62)).setRow w3.heap.size (bw q)).setRow (w3.heap.size + 1) (bw r) = V at *
  generalize w3.heap.size = H at *
  clear W
  go_wp2_with (first
    | (with_reducible refine load_row (.tmp 13) _ _ y3 rfl rfl rfl ?_)
    | fail)
  refine (num_any _ _).mono ?_
  rintro e w5 ⟨rfl, b5⟩
  go_wp2
  go_ret
  exact ⟨rfl, yb.trans (b5.mono yb.size)⟩

set_option maxRecDepth 100000 in
set_option maxHeartbeats 2000000 in
theorem rap_and (a : Int) (x y n : Nat) (f g q r : Nat → Bool) (HN : Hid (Wd.wid a = n)) (HF : Hid (Wb.ofB n x = f)) (HG : Hid (Wb.ofB n y = g)) (HQ : Hid ((Wb.qr n f g).1 = q)) (HR : Hid ((Wb.qr n f g).2 = r)) (hx : x < 18446744073709551616) (hy : y < 18446744073709551616) (h1 : 1 ≤ n) (h2 : n ≤ 64) (w : World) :
    Calls Try.prog 32 #[.int .i64 13, .int .i64 a, .int .u64 x, .int .u64 y] w fun e w' => e = .returned (.int .u64 (Wb.val (Wb.bitB n and f g) 64 : Nat)) ∧ Below w.heap.size w w' := by
  go_enter Try.func32, Try.ntmps32
  go_wp2_with fail
  refine (wd_rwidth_any _ _).mono ?_
  rintro e w' ⟨rfl, rfl⟩
  rw [HN.out]
  go_wp2_with fail
  refine (of_any n x h2 hx _).mono ?_
  rintro e w1 ⟨rfl, hb1⟩
  rw [HF.out]
  go_wp2_with fail
  refine (of_any n y h2 hy _).mono ?_
  rintro e w2 ⟨rfl, hb2⟩
  rw [HG.out]
  have hs1 := hb1.size
  have hs2 := hb2.size
  have hbb := hb1.trans (hb2.mono hs1)
  have t0 := (Row.new w2 off).alloc (.cells (bw off) 62)
  have t1 := Row.new_at (w2.alloc (.cells (bw off) 62)) off (g := w2.heap.size + 1) (by simp)
  have u0 := t0.row_same f
  have u1 := t1.row_other (k := w2.heap.size) (by omega) (bw f)
  have v0 := u0.row_other (k := w2.heap.size + 1) (by omega) (bw g)
  have v1 := u1.row_same g
  have vb := below_setRow (below_setRow ((hbb.alloc (by omega) (.cells (bw off) 62)).alloc (by simp; omega) (.cells (bw off) 62)) (show w.heap.size ≤ w2.heap.size by omega) (bw f)) (show w.heap.size ≤ w2.heap.size + 1 by omega) (bw g)
  go_upto_region 3 with (first
    | (with_reducible refine alloc_row_at w2.heap.size rfl rfl rfl ?_)
    | (with_reducible refine alloc_row_at (w2.heap.size + 1) (by simp) rfl rfl ?_)
    | (with_reducible refine store_row (.tmp 10) (.tmp 18) _ _ f t0 rfl rfl rfl rfl ?_)
    | (with_reducible refine store_row (.tmp 11) (.tmp 21) _ _ g u1 rfl rfl rfl rfl ?_)
    | fail)
  clear t0 t1 u0 u1 hb1 hb2 hbb
  generalize (((w2.alloc (.cells (bw off) 62)).alloc (.cells (bw off) 62)).setRow w2.heap.size (bw f)).setRow (w2.heap.size + 1) (bw g) = W at *
  generalize w2.heap.size = G at *
  clear hs1 hs2
  go_wp2_with (first
    | (with_reducible refine load_row (.tmp 10) _ _ v0 rfl rfl rfl ?_)
    | (with_reducible refine load_row (.tmp 11) _ _ v1 rfl rfl rfl ?_)
    | fail)
  refine (rdiv_any n f g h1 h2 _).mono ?_
  rintro e w3 ⟨rfl, hb3⟩
  rw [HQ.out, HR.out]
  have x0 := ((v0.below hb3 v0.lt).alloc (.cells (bw off) 62)).alloc (.cells (bw off) 62)
  have x1 := ((v1.below hb3 v1.lt).alloc (.cells (bw off) 62)).alloc (.cells (bw off) 62)
  have l1 : G + 1 < w3.heap.size := by have := v1.lt; have := hb3.size; omega
  have hs3 : w.heap.size ≤ w3.heap.size := by have := hb3.size; have := vb.size; omega
  have t2 := (Row.new w3 off).alloc (.cells (bw off) 62)
  have t3 := Row.new_at (w3.alloc (.cells (bw off) 62)) off (g := w3.heap.size + 1) (by simp)
  have u3 := t3.row_other (k := w3.heap.size) (by omega) (bw q)
  have y0 := (x0.row_other (k := w3.heap.size) (by omega) (bw q)).row_other (k := w3.heap.size + 1) (by omega) (bw r)
  have y1 := (x1.row_other (k := w3.heap.size) (by omega) (bw q)).row_other (k := w3.heap.size + 1) (by omega) (bw r)
  have y2 := (t2.row_same q).row_other (k := w3.heap.size + 1) (by omega) (bw r)
  have y3 := u3.row_same r
  have yb := below_setRow (below_setRow ((((vb.trans (hb3.mono vb.size)).alloc (by omega) (.cells (bw off) 62)).alloc (by simp; omega) (.cells (bw off) 62))) (show w.heap.size ≤ w3.heap.size by omega) (bw q)) (show w.heap.size ≤ w3.heap.size + 1 by omega) (bw r)
  go_upto_region 4 with (first
    | (with_reducible refine alloc_row_at w3.heap.size rfl rfl rfl ?_)
    | (with_reducible refine alloc_row_at (w3.heap.size + 1) (by simp) rfl rfl ?_)
    | (with_reducible refine store_row (.tmp 12) (.tmp 27) _ _ q t2 rfl rfl rfl rfl ?_)
    | (with_reducible refine store_row (.tmp 13) (.tmp 28) _ _ r u3 rfl rfl rfl rfl ?_)
    | fail)
  clear t2 t3 u3 x0 x1 v0 v1 hb3 vb hs3
  generalize (((w3.alloc (.cells (bw off) 62)).alloc (.cells (bw off) 62)).setRow w3.heap.size (bw q)).setRow (w3.heap.size + 1) (bw r) = V at *
  generalize w3.heap.size = H at *
  clear W
  go_wp2_with (first
    | (with_reducible refine load_row (.tmp 10) _ _ y0 rfl rfl rfl ?_)
    | (with_reducible refine load_row (.tmp 11) _ _ y1 rfl rfl rfl ?_)
    | fail)
  refine (bitAnd_any n f g h2 _).mono ?_
  rintro e w4 ⟨rfl, b4⟩
  go_wp2_with fail
  refine (num_any _ _).mono ?_
  rintro e w5 ⟨rfl, b5⟩
  go_wp2
  go_ret
  have hb := yb.trans (b4.mono yb.size)
  exact ⟨rfl, hb.trans (b5.mono hb.size)⟩

set_option maxRecDepth 100000 in
set_option maxHeartbeats 2000000 in
theorem rap_or (a : Int) (x y n : Nat) (f g q r : Nat → Bool) (HN : Hid (Wd.wid a = n)) (HF : Hid (Wb.ofB n x = f)) (HG : Hid (Wb.ofB n y = g)) (HQ : Hid ((Wb.qr n f g).1 = q)) (HR : Hid ((Wb.qr n f g).2 = r)) (hx : x < 18446744073709551616) (hy : y < 18446744073709551616) (h1 : 1 ≤ n) (h2 : n ≤ 64) (w : World) :
    Calls Try.prog 32 #[.int .i64 14, .int .i64 a, .int .u64 x, .int .u64 y] w fun e w' => e = .returned (.int .u64 (Wb.val (Wb.bitB n or f g) 64 : Nat)) ∧ Below w.heap.size w w' := by
  go_enter Try.func32, Try.ntmps32
  go_wp2_with fail
  refine (wd_rwidth_any _ _).mono ?_
  rintro e w' ⟨rfl, rfl⟩
  rw [HN.out]
  go_wp2_with fail
  refine (of_any n x h2 hx _).mono ?_
  rintro e w1 ⟨rfl, hb1⟩
  rw [HF.out]
  go_wp2_with fail
  refine (of_any n y h2 hy _).mono ?_
  rintro e w2 ⟨rfl, hb2⟩
  rw [HG.out]
  have hs1 := hb1.size
  have hs2 := hb2.size
  have hbb := hb1.trans (hb2.mono hs1)
  have t0 := (Row.new w2 off).alloc (.cells (bw off) 62)
  have t1 := Row.new_at (w2.alloc (.cells (bw off) 62)) off (g := w2.heap.size + 1) (by simp)
  have u0 := t0.row_same f
  have u1 := t1.row_other (k := w2.heap.size) (by omega) (bw f)
  have v0 := u0.row_other (k := w2.heap.size + 1) (by omega) (bw g)
  have v1 := u1.row_same g
  have vb := below_setRow (below_setRow ((hbb.alloc (by omega) (.cells (bw off) 62)).alloc (by simp; omega) (.cells (bw off) 62)) (show w.heap.size ≤ w2.heap.size by omega) (bw f)) (show w.heap.size ≤ w2.heap.size + 1 by omega) (bw g)
  go_upto_region 3 with (first
    | (with_reducible refine alloc_row_at w2.heap.size rfl rfl rfl ?_)
    | (with_reducible refine alloc_row_at (w2.heap.size + 1) (by simp) rfl rfl ?_)
    | (with_reducible refine store_row (.tmp 10) (.tmp 18) _ _ f t0 rfl rfl rfl rfl ?_)
    | (with_reducible refine store_row (.tmp 11) (.tmp 21) _ _ g u1 rfl rfl rfl rfl ?_)
    | fail)
  clear t0 t1 u0 u1 hb1 hb2 hbb
  generalize (((w2.alloc (.cells (bw off) 62)).alloc (.cells (bw off) 62)).setRow w2.heap.size (bw f)).setRow (w2.heap.size + 1) (bw g) = W at *
  generalize w2.heap.size = G at *
  clear hs1 hs2
  go_wp2_with (first
    | (with_reducible refine load_row (.tmp 10) _ _ v0 rfl rfl rfl ?_)
    | (with_reducible refine load_row (.tmp 11) _ _ v1 rfl rfl rfl ?_)
    | fail)
  refine (rdiv_any n f g h1 h2 _).mono ?_
  rintro e w3 ⟨rfl, hb3⟩
  rw [HQ.out, HR.out]
  have x0 := ((v0.below hb3 v0.lt).alloc (.cells (bw off) 62)).alloc (.cells (bw off) 62)
  have x1 := ((v1.below hb3 v1.lt).alloc (.cells (bw off) 62)).alloc (.cells (bw off) 62)
  have l1 : G + 1 < w3.heap.size := by have := v1.lt; have := hb3.size; omega
  have hs3 : w.heap.size ≤ w3.heap.size := by have := hb3.size; have := vb.size; omega
  have t2 := (Row.new w3 off).alloc (.cells (bw off) 62)
  have t3 := Row.new_at (w3.alloc (.cells (bw off) 62)) off (g := w3.heap.size + 1) (by simp)
  have u3 := t3.row_other (k := w3.heap.size) (by omega) (bw q)
  have y0 := (x0.row_other (k := w3.heap.size) (by omega) (bw q)).row_other (k := w3.heap.size + 1) (by omega) (bw r)
  have y1 := (x1.row_other (k := w3.heap.size) (by omega) (bw q)).row_other (k := w3.heap.size + 1) (by omega) (bw r)
  have y2 := (t2.row_same q).row_other (k := w3.heap.size + 1) (by omega) (bw r)
  have y3 := u3.row_same r
  have yb := below_setRow (below_setRow ((((vb.trans (hb3.mono vb.size)).alloc (by omega) (.cells (bw off) 62)).alloc (by simp; omega) (.cells (bw off) 62))) (show w.heap.size ≤ w3.heap.size by omega) (bw q)) (show w.heap.size ≤ w3.heap.size + 1 by omega) (bw r)
  go_upto_region 4 with (first
    | (with_reducible refine alloc_row_at w3.heap.size rfl rfl rfl ?_)
    | (with_reducible refine alloc_row_at (w3.heap.size + 1) (by simp) rfl rfl ?_)
    | (with_reducible refine store_row (.tmp 12) (.tmp 27) _ _ q t2 rfl rfl rfl rfl ?_)
    | (with_reducible refine store_row (.tmp 13) (.tmp 28) _ _ r u3 rfl rfl rfl rfl ?_)
    | fail)
  clear t2 t3 u3 x0 x1 v0 v1 hb3 vb hs3
  generalize (((w3.alloc (.cells (bw off) 62)).alloc (.cells (bw off) 62)).setRow w3.heap.size (bw q)).setRow (w3.heap.size + 1) (bw r) = V at *
  generalize w3.heap.size = H at *
  clear W
  go_wp2_with (first
    | (with_reducible refine load_row (.tmp 10) _ _ y0 rfl rfl rfl ?_)
    | (with_reducible refine load_row (.tmp 11) _ _ y1 rfl rfl rfl ?_)
    | fail)
  refine (bitOr_any n f g h2 _).mono ?_
  rintro e w4 ⟨rfl, b4⟩
  go_wp2_with fail
  refine (num_any _ _).mono ?_
  rintro e w5 ⟨rfl, b5⟩
  go_wp2
  go_ret
  have hb := yb.trans (b4.mono yb.size)
  exact ⟨rfl, hb.trans (b5.mono hb.size)⟩

set_option maxRecDepth 100000 in
set_option maxHeartbeats 2000000 in
theorem rap_xor (a : Int) (x y n : Nat) (f g q r : Nat → Bool) (HN : Hid (Wd.wid a = n)) (HF : Hid (Wb.ofB n x = f)) (HG : Hid (Wb.ofB n y = g)) (HQ : Hid ((Wb.qr n f g).1 = q)) (HR : Hid ((Wb.qr n f g).2 = r)) (hx : x < 18446744073709551616) (hy : y < 18446744073709551616) (h1 : 1 ≤ n) (h2 : n ≤ 64) (w : World) :
    Calls Try.prog 32 #[.int .i64 15, .int .i64 a, .int .u64 x, .int .u64 y] w fun e w' => e = .returned (.int .u64 (Wb.val (Wb.bitB n bne f g) 64 : Nat)) ∧ Below w.heap.size w w' := by
  go_enter Try.func32, Try.ntmps32
  go_wp2_with fail
  refine (wd_rwidth_any _ _).mono ?_
  rintro e w' ⟨rfl, rfl⟩
  rw [HN.out]
  go_wp2_with fail
  refine (of_any n x h2 hx _).mono ?_
  rintro e w1 ⟨rfl, hb1⟩
  rw [HF.out]
  go_wp2_with fail
  refine (of_any n y h2 hy _).mono ?_
  rintro e w2 ⟨rfl, hb2⟩
  rw [HG.out]
  have hs1 := hb1.size
  have hs2 := hb2.size
  have hbb := hb1.trans (hb2.mono hs1)
  have t0 := (Row.new w2 off).alloc (.cells (bw off) 62)
  have t1 := Row.new_at (w2.alloc (.cells (bw off) 62)) off (g := w2.heap.size + 1) (by simp)
  have u0 := t0.row_same f
  have u1 := t1.row_other (k := w2.heap.size) (by omega) (bw f)
  have v0 := u0.row_other (k := w2.heap.size + 1) (by omega) (bw g)
  have v1 := u1.row_same g
  have vb := below_setRow (below_setRow ((hbb.alloc (by omega) (.cells (bw off) 62)).alloc (by simp; omega) (.cells (bw off) 62)) (show w.heap.size ≤ w2.heap.size by omega) (bw f)) (show w.heap.size ≤ w2.heap.size + 1 by omega) (bw g)
  go_upto_region 3 with (first
    | (with_reducible refine alloc_row_at w2.heap.size rfl rfl rfl ?_)
    | (with_reducible refine alloc_row_at (w2.heap.size + 1) (by simp) rfl rfl ?_)
    | (with_reducible refine store_row (.tmp 10) (.tmp 18) _ _ f t0 rfl rfl rfl rfl ?_)
    | (with_reducible refine store_row (.tmp 11) (.tmp 21) _ _ g u1 rfl rfl rfl rfl ?_)
    | fail)
  clear t0 t1 u0 u1 hb1 hb2 hbb
  generalize (((w2.alloc (.cells (bw off) 62)).alloc (.cells (bw off) 62)).setRow w2.heap.size (bw f)).setRow (w2.heap.size + 1) (bw g) = W at *
  generalize w2.heap.size = G at *
  clear hs1 hs2
  go_wp2_with (first
    | (with_reducible refine load_row (.tmp 10) _ _ v0 rfl rfl rfl ?_)
    | (with_reducible refine load_row (.tmp 11) _ _ v1 rfl rfl rfl ?_)
    | fail)
  refine (rdiv_any n f g h1 h2 _).mono ?_
  rintro e w3 ⟨rfl, hb3⟩
  rw [HQ.out, HR.out]
  have x0 := ((v0.below hb3 v0.lt).alloc (.cells (bw off) 62)).alloc (.cells (bw off) 62)
  have x1 := ((v1.below hb3 v1.lt).alloc (.cells (bw off) 62)).alloc (.cells (bw off) 62)
  have l1 : G + 1 < w3.heap.size := by have := v1.lt; have := hb3.size; omega
  have hs3 : w.heap.size ≤ w3.heap.size := by have := hb3.size; have := vb.size; omega
  have t2 := (Row.new w3 off).alloc (.cells (bw off) 62)
  have t3 := Row.new_at (w3.alloc (.cells (bw off) 62)) off (g := w3.heap.size + 1) (by simp)
  have u3 := t3.row_other (k := w3.heap.size) (by omega) (bw q)
  have y0 := (x0.row_other (k := w3.heap.size) (by omega) (bw q)).row_other (k := w3.heap.size + 1) (by omega) (bw r)
  have y1 := (x1.row_other (k := w3.heap.size) (by omega) (bw q)).row_other (k := w3.heap.size + 1) (by omega) (bw r)
  have y2 := (t2.row_same q).row_other (k := w3.heap.size + 1) (by omega) (bw r)
  have y3 := u3.row_same r
  have yb := below_setRow (below_setRow ((((vb.trans (hb3.mono vb.size)).alloc (by omega) (.cells (bw off) 62)).alloc (by simp; omega) (.cells (bw off) 62))) (show w.heap.size ≤ w3.heap.size by omega) (bw q)) (show w.heap.size ≤ w3.heap.size + 1 by omega) (bw r)
  go_upto_region 4 with (first
    | (with_reducible refine alloc_row_at w3.heap.size rfl rfl rfl ?_)
    | (with_reducible refine alloc_row_at (w3.heap.size + 1) (by simp) rfl rfl ?_)
    | (with_reducible refine store_row (.tmp 12) (.tmp 27) _ _ q t2 rfl rfl rfl rfl ?_)
    | (with_reducible refine store_row (.tmp 13) (.tmp 28) _ _ r u3 rfl rfl rfl rfl ?_)
    | fail)
  clear t2 t3 u3 x0 x1 v0 v1 hb3 vb hs3
  generalize (((w3.alloc (.cells (bw off) 62)).alloc (.cells (bw off) 62)).setRow w3.heap.size (bw q)).setRow (w3.heap.size + 1) (bw r) = V at *
  generalize w3.heap.size = H at *
  clear W
  go_wp2_with (first
    | (with_reducible refine load_row (.tmp 10) _ _ y0 rfl rfl rfl ?_)
    | (with_reducible refine load_row (.tmp 11) _ _ y1 rfl rfl rfl ?_)
    | fail)
  refine (bitXor_any n f g h2 _).mono ?_
  rintro e w4 ⟨rfl, b4⟩
  go_wp2_with fail
  refine (num_any _ _).mono ?_
  rintro e w5 ⟨rfl, b5⟩
  go_wp2
  go_ret
  have hb := yb.trans (b4.mono yb.size)
  exact ⟨rfl, hb.trans (b5.mono hb.size)⟩

set_option maxRecDepth 100000 in
set_option maxHeartbeats 2000000 in
theorem rap_shl (a : Int) (x y n : Nat) (f g q r : Nat → Bool) (HN : Hid (Wd.wid a = n)) (HF : Hid (Wb.ofB n x = f)) (HG : Hid (Wb.ofB n y = g)) (HQ : Hid ((Wb.qr n f g).1 = q)) (HR : Hid ((Wb.qr n f g).2 = r)) (hx : x < 18446744073709551616) (hy : y < 18446744073709551616) (h1 : 1 ≤ n) (h2 : n ≤ 64) (w : World) :
    Calls Try.prog 32 #[.int .i64 16, .int .i64 a, .int .u64 x, .int .u64 y] w fun e w' => e = .returned (.int .u64 (Wb.val (Wb.movU n f (min n (Wb.val g 64))) 64 : Nat)) ∧ Below w.heap.size w w' := by
  go_enter Try.func32, Try.ntmps32
  go_wp2_with fail
  refine (wd_rwidth_any _ _).mono ?_
  rintro e w' ⟨rfl, rfl⟩
  rw [HN.out]
  go_wp2_with fail
  refine (of_any n x h2 hx _).mono ?_
  rintro e w1 ⟨rfl, hb1⟩
  rw [HF.out]
  go_wp2_with fail
  refine (of_any n y h2 hy _).mono ?_
  rintro e w2 ⟨rfl, hb2⟩
  rw [HG.out]
  have hs1 := hb1.size
  have hs2 := hb2.size
  have hbb := hb1.trans (hb2.mono hs1)
  have t0 := (Row.new w2 off).alloc (.cells (bw off) 62)
  have t1 := Row.new_at (w2.alloc (.cells (bw off) 62)) off (g := w2.heap.size + 1) (by simp)
  have u0 := t0.row_same f
  have u1 := t1.row_other (k := w2.heap.size) (by omega) (bw f)
  have v0 := u0.row_other (k := w2.heap.size + 1) (by omega) (bw g)
  have v1 := u1.row_same g
  have vb := below_setRow (below_setRow ((hbb.alloc (by omega) (.cells (bw off) 62)).alloc (by simp; omega) (.cells (bw off) 62)) (show w.heap.size ≤ w2.heap.size by omega) (bw f)) (show w.heap.size ≤ w2.heap.size + 1 by omega) (bw g)
  go_upto_region 3 with (first
    | (with_reducible refine alloc_row_at w2.heap.size rfl rfl rfl ?_)
    | (with_reducible refine alloc_row_at (w2.heap.size + 1) (by simp) rfl rfl ?_)
    | (with_reducible refine store_row (.tmp 10) (.tmp 18) _ _ f t0 rfl rfl rfl rfl ?_)
    | (with_reducible refine store_row (.tmp 11) (.tmp 21) _ _ g u1 rfl rfl rfl rfl ?_)
    | fail)
  clear t0 t1 u0 u1 hb1 hb2 hbb
  generalize (((w2.alloc (.cells (bw off) 62)).alloc (.cells (bw off) 62)).setRow w2.heap.size (bw f)).setRow (w2.heap.size + 1) (bw g) = W at *
  generalize w2.heap.size = G at *
  clear hs1 hs2
  go_wp2_with (first
    | (with_reducible refine load_row (.tmp 10) _ _ v0 rfl rfl rfl ?_)
    | (with_reducible refine load_row (.tmp 11) _ _ v1 rfl rfl rfl ?_)
    | fail)
  refine (rdiv_any n f g h1 h2 _).mono ?_
  rintro e w3 ⟨rfl, hb3⟩
  rw [HQ.out, HR.out]
  have x0 := ((v0.below hb3 v0.lt).alloc (.cells (bw off) 62)).alloc (.cells (bw off) 62)
  have x1 := ((v1.below hb3 v1.lt).alloc (.cells (bw off) 62)).alloc (.cells (bw off) 62)
  have l1 : G + 1 < w3.heap.size := by have := v1.lt; have := hb3.size; omega
  have hs3 : w.heap.size ≤ w3.heap.size := by have := hb3.size; have := vb.size; omega
  have t2 := (Row.new w3 off).alloc (.cells (bw off) 62)
  have t3 := Row.new_at (w3.alloc (.cells (bw off) 62)) off (g := w3.heap.size + 1) (by simp)
  have u3 := t3.row_other (k := w3.heap.size) (by omega) (bw q)
  have y0 := (x0.row_other (k := w3.heap.size) (by omega) (bw q)).row_other (k := w3.heap.size + 1) (by omega) (bw r)
  have y1 := (x1.row_other (k := w3.heap.size) (by omega) (bw q)).row_other (k := w3.heap.size + 1) (by omega) (bw r)
  have y2 := (t2.row_same q).row_other (k := w3.heap.size + 1) (by omega) (bw r)
  have y3 := u3.row_same r
  have yb := below_setRow (below_setRow ((((vb.trans (hb3.mono vb.size)).alloc (by omega) (.cells (bw off) 62)).alloc (by simp; omega) (.cells (bw off) 62))) (show w.heap.size ≤ w3.heap.size by omega) (bw q)) (show w.heap.size ≤ w3.heap.size + 1 by omega) (bw r)
  go_upto_region 4 with (first
    | (with_reducible refine alloc_row_at w3.heap.size rfl rfl rfl ?_)
    | (with_reducible refine alloc_row_at (w3.heap.size + 1) (by simp) rfl rfl ?_)
    | (with_reducible refine store_row (.tmp 12) (.tmp 27) _ _ q t2 rfl rfl rfl rfl ?_)
    | (with_reducible refine store_row (.tmp 13) (.tmp 28) _ _ r u3 rfl rfl rfl rfl ?_)
    | fail)
  clear t2 t3 u3 x0 x1 v0 v1 hb3 vb hs3
  generalize (((w3.alloc (.cells (bw off) 62)).alloc (.cells (bw off) 62)).setRow w3.heap.size (bw q)).setRow (w3.heap.size + 1) (bw r) = V at *
  generalize w3.heap.size = H at *
  clear W
  go_wp2_with (first
    | (with_reducible refine load_row (.tmp 10) _ _ y0 rfl rfl rfl ?_)
    | (with_reducible refine load_row (.tmp 11) _ _ y1 rfl rfl rfl ?_)
    | fail)
  refine (movedU_any n f g h1 h2 _).mono ?_
  rintro e w4 ⟨rfl, b4⟩
  go_wp2_with fail
  refine (num_any _ _).mono ?_
  rintro e w5 ⟨rfl, b5⟩
  go_wp2
  go_ret
  have hb := yb.trans (b4.mono yb.size)
  exact ⟨rfl, hb.trans (b5.mono hb.size)⟩

set_option maxRecDepth 100000 in
set_option maxHeartbeats 2000000 in
theorem rap_shr (a : Int) (x y n : Nat) (f g q r : Nat → Bool) (HN : Hid (Wd.wid a = n)) (HF : Hid (Wb.ofB n x = f)) (HG : Hid (Wb.ofB n y = g)) (HQ : Hid ((Wb.qr n f g).1 = q)) (HR : Hid ((Wb.qr n f g).2 = r)) (hx : x < 18446744073709551616) (hy : y < 18446744073709551616) (h1 : 1 ≤ n) (h2 : n ≤ 64) (w : World) :
    Calls Try.prog 32 #[.int .i64 17, .int .i64 a, .int .u64 x, .int .u64 y] w fun e w' => e = .returned (.int .u64 (Wb.val (Wb.movD n f false (min n (Wb.val g 64))) 64 : Nat)) ∧ Below w.heap.size w w' := by
  go_enter Try.func32, Try.ntmps32
  go_wp2_with fail
  refine (wd_rwidth_any _ _).mono ?_
  rintro e w' ⟨rfl, rfl⟩
  rw [HN.out]
  go_wp2_with fail
  refine (of_any n x h2 hx _).mono ?_
  rintro e w1 ⟨rfl, hb1⟩
  rw [HF.out]
  go_wp2_with fail
  refine (of_any n y h2 hy _).mono ?_
  rintro e w2 ⟨rfl, hb2⟩
  rw [HG.out]
  have hs1 := hb1.size
  have hs2 := hb2.size
  have hbb := hb1.trans (hb2.mono hs1)
  have t0 := (Row.new w2 off).alloc (.cells (bw off) 62)
  have t1 := Row.new_at (w2.alloc (.cells (bw off) 62)) off (g := w2.heap.size + 1) (by simp)
  have u0 := t0.row_same f
  have u1 := t1.row_other (k := w2.heap.size) (by omega) (bw f)
  have v0 := u0.row_other (k := w2.heap.size + 1) (by omega) (bw g)
  have v1 := u1.row_same g
  have vb := below_setRow (below_setRow ((hbb.alloc (by omega) (.cells (bw off) 62)).alloc (by simp; omega) (.cells (bw off) 62)) (show w.heap.size ≤ w2.heap.size by omega) (bw f)) (show w.heap.size ≤ w2.heap.size + 1 by omega) (bw g)
  go_upto_region 3 with (first
    | (with_reducible refine alloc_row_at w2.heap.size rfl rfl rfl ?_)
    | (with_reducible refine alloc_row_at (w2.heap.size + 1) (by simp) rfl rfl ?_)
    | (with_reducible refine store_row (.tmp 10) (.tmp 18) _ _ f t0 rfl rfl rfl rfl ?_)
    | (with_reducible refine store_row (.tmp 11) (.tmp 21) _ _ g u1 rfl rfl rfl rfl ?_)
    | fail)
  clear t0 t1 u0 u1 hb1 hb2 hbb
  generalize (((w2.alloc (.cells (bw off) 62)).alloc (.cells (bw off) 62)).setRow w2.heap.size (bw f)).setRow (w2.heap.size + 1) (bw g) = W at *
  generalize w2.heap.size = G at *
  clear hs1 hs2
  go_wp2_with (first
    | (with_reducible refine load_row (.tmp 10) _ _ v0 rfl rfl rfl ?_)
    | (with_reducible refine load_row (.tmp 11) _ _ v1 rfl rfl rfl ?_)
    | fail)
  refine (rdiv_any n f g h1 h2 _).mono ?_
  rintro e w3 ⟨rfl, hb3⟩
  rw [HQ.out, HR.out]
  have x0 := ((v0.below hb3 v0.lt).alloc (.cells (bw off) 62)).alloc (.cells (bw off) 62)
  have x1 := ((v1.below hb3 v1.lt).alloc (.cells (bw off) 62)).alloc (.cells (bw off) 62)
  have l1 : G + 1 < w3.heap.size := by have := v1.lt; have := hb3.size; omega
  have hs3 : w.heap.size ≤ w3.heap.size := by have := hb3.size; have := vb.size; omega
  have t2 := (Row.new w3 off).alloc (.cells (bw off) 62)
  have t3 := Row.new_at (w3.alloc (.cells (bw off) 62)) off (g := w3.heap.size + 1) (by simp)
  have u3 := t3.row_other (k := w3.heap.size) (by omega) (bw q)
  have y0 := (x0.row_other (k := w3.heap.size) (by omega) (bw q)).row_other (k := w3.heap.size + 1) (by omega) (bw r)
  have y1 := (x1.row_other (k := w3.heap.size) (by omega) (bw q)).row_other (k := w3.heap.size + 1) (by omega) (bw r)
  have y2 := (t2.row_same q).row_other (k := w3.heap.size + 1) (by omega) (bw r)
  have y3 := u3.row_same r
  have yb := below_setRow (below_setRow ((((vb.trans (hb3.mono vb.size)).alloc (by omega) (.cells (bw off) 62)).alloc (by simp; omega) (.cells (bw off) 62))) (show w.heap.size ≤ w3.heap.size by omega) (bw q)) (show w.heap.size ≤ w3.heap.size + 1 by omega) (bw r)
  go_upto_region 4 with (first
    | (with_reducible refine alloc_row_at w3.heap.size rfl rfl rfl ?_)
    | (with_reducible refine alloc_row_at (w3.heap.size + 1) (by simp) rfl rfl ?_)
    | (with_reducible refine store_row (.tmp 12) (.tmp 27) _ _ q t2 rfl rfl rfl rfl ?_)
    | (with_reducible refine store_row (.tmp 13) (.tmp 28) _ _ r u3 rfl rfl rfl rfl ?_)
    | fail)
  clear t2 t3 u3 x0 x1 v0 v1 hb3 vb hs3
  generalize (((w3.alloc (.cells (bw off) 62)).alloc (.cells (bw off) 62)).setRow w3.heap.size (bw q)).setRow (w3.heap.size + 1) (bw r) = V at *
  generalize w3.heap.size = H at *
  clear W
  go_wp2_with (first
    | (with_reducible refine load_row (.tmp 10) _ _ y0 rfl rfl rfl ?_)
    | (with_reducible refine load_row (.tmp 11) _ _ y1 rfl rfl rfl ?_)
    | fail)
  refine (movedR_any n f g h1 h2 _).mono ?_
  rintro e w4 ⟨rfl, b4⟩
  go_wp2_with fail
  refine (num_any _ _).mono ?_
  rintro e w5 ⟨rfl, b5⟩
  go_wp2
  go_ret
  have hb := yb.trans (b4.mono yb.size)
  exact ⟨rfl, hb.trans (b5.mono hb.size)⟩

set_option maxRecDepth 100000 in
set_option maxHeartbeats 2000000 in
theorem rap_sar (a : Int) (x y n : Nat) (f g q r : Nat → Bool) (HN : Hid (Wd.wid a = n)) (HF : Hid (Wb.ofB n x = f)) (HG : Hid (Wb.ofB n y = g)) (HQ : Hid ((Wb.qr n f g).1 = q)) (HR : Hid ((Wb.qr n f g).2 = r)) (hx : x < 18446744073709551616) (hy : y < 18446744073709551616) (h1 : 1 ≤ n) (h2 : n ≤ 64) (w : World) :
    Calls Try.prog 32 #[.int .i64 18, .int .i64 a, .int .u64 x, .int .u64 y] w fun e w' => e = .returned (.int .u64 (Wb.val (Wb.movD n f (f (n - 1)) (min n (Wb.val g 64))) 64 : Nat)) ∧ Below w.heap.size w w' := by
  go_enter Try.func32, Try.ntmps32
  go_wp2_with fail
  refine (wd_rwidth_any _ _).mono ?_
  rintro e w' ⟨rfl, rfl⟩
  rw [HN.out]
  go_wp2_with fail
  refine (of_any n x h2 hx _).mono ?_
  rintro e w1 ⟨rfl, hb1⟩
  rw [HF.out]
  go_wp2_with fail
  refine (of_any n y h2 hy _).mono ?_
  rintro e w2 ⟨rfl, hb2⟩
  rw [HG.out]
  have hs1 := hb1.size
  have hs2 := hb2.size
  have hbb := hb1.trans (hb2.mono hs1)
  have t0 := (Row.new w2 off).alloc (.cells (bw off) 62)
  have t1 := Row.new_at (w2.alloc (.cells (bw off) 62)) off (g := w2.heap.size + 1) (by simp)
  have u0 := t0.row_same f
  have u1 := t1.row_other (k := w2.heap.size) (by omega) (bw f)
  have v0 := u0.row_other (k := w2.heap.size + 1) (by omega) (bw g)
  have v1 := u1.row_same g
  have vb := below_setRow (below_setRow ((hbb.alloc (by omega) (.cells (bw off) 62)).alloc (by simp; omega) (.cells (bw off) 62)) (show w.heap.size ≤ w2.heap.size by omega) (bw f)) (show w.heap.size ≤ w2.heap.size + 1 by omega) (bw g)
  go_upto_region 3 with (first
    | (with_reducible refine alloc_row_at w2.heap.size rfl rfl rfl ?_)
    | (with_reducible refine alloc_row_at (w2.heap.size + 1) (by simp) rfl rfl ?_)
    | (with_reducible refine store_row (.tmp 10) (.tmp 18) _ _ f t0 rfl rfl rfl rfl ?_)
    | (with_reducible refine store_row (.tmp 11) (.tmp 21) _ _ g u1 rfl rfl rfl rfl ?_)
    | fail)
  clear t0 t1 u0 u1 hb1 hb2 hbb
  generalize (((w2.alloc (.cells (bw off) 62)).alloc (.cells (bw off) 62)).setRow w2.heap.size (bw f)).setRow (w2.heap.size + 1) (bw g) = W at *
  generalize w2.heap.size = G at *
  clear hs1 hs2
  go_wp2_with (first
    | (with_reducible refine load_row (.tmp 10) _ _ v0 rfl rfl rfl ?_)
    | (with_reducible refine load_row (.tmp 11) _ _ v1 rfl rfl rfl ?_)
    | fail)
  refine (rdiv_any n f g h1 h2 _).mono ?_
  rintro e w3 ⟨rfl, hb3⟩
  rw [HQ.out, HR.out]
  have x0 := ((v0.below hb3 v0.lt).alloc (.cells (bw off) 62)).alloc (.cells (bw off) 62)
  have x1 := ((v1.below hb3 v1.lt).alloc (.cells (bw off) 62)).alloc (.cells (bw off) 62)
  have l1 : G + 1 < w3.heap.size := by have := v1.lt; have := hb3.size; omega
  have hs3 : w.heap.size ≤ w3.heap.size := by have := hb3.size; have := vb.size; omega
  have t2 := (Row.new w3 off).alloc (.cells (bw off) 62)
  have t3 := Row.new_at (w3.alloc (.cells (bw off) 62)) off (g := w3.heap.size + 1) (by simp)
  have u3 := t3.row_other (k := w3.heap.size) (by omega) (bw q)
  have y0 := (x0.row_other (k := w3.heap.size) (by omega) (bw q)).row_other (k := w3.heap.size + 1) (by omega) (bw r)
  have y1 := (x1.row_other (k := w3.heap.size) (by omega) (bw q)).row_other (k := w3.heap.size + 1) (by omega) (bw r)
  have y2 := (t2.row_same q).row_other (k := w3.heap.size + 1) (by omega) (bw r)
  have y3 := u3.row_same r
  have yb := below_setRow (below_setRow ((((vb.trans (hb3.mono vb.size)).alloc (by omega) (.cells (bw off) 62)).alloc (by simp; omega) (.cells (bw off) 62))) (show w.heap.size ≤ w3.heap.size by omega) (bw q)) (show w.heap.size ≤ w3.heap.size + 1 by omega) (bw r)
  go_upto_region 4 with (first
    | (with_reducible refine alloc_row_at w3.heap.size rfl rfl rfl ?_)
    | (with_reducible refine alloc_row_at (w3.heap.size + 1) (by simp) rfl rfl ?_)
    | (with_reducible refine store_row (.tmp 12) (.tmp 27) _ _ q t2 rfl rfl rfl rfl ?_)
    | (with_reducible refine store_row (.tmp 13) (.tmp 28) _ _ r u3 rfl rfl rfl rfl ?_)
    | fail)
  clear t2 t3 u3 x0 x1 v0 v1 hb3 vb hs3
  generalize (((w3.alloc (.cells (bw off) 62)).alloc (.cells (bw off) 62)).setRow w3.heap.size (bw q)).setRow (w3.heap.size + 1) (bw r) = V at *
  generalize w3.heap.size = H at *
  clear W
  go_wp2_with (first
    | (with_reducible refine load_row (.tmp 10) _ _ y0 rfl rfl rfl ?_)
    | (with_reducible refine load_row (.tmp 11) _ _ y1 rfl rfl rfl ?_)
    | fail)
  refine (movedA_any n f g h1 h2 _).mono ?_
  rintro e w4 ⟨rfl, b4⟩
  go_wp2_with fail
  refine (num_any _ _).mono ?_
  rintro e w5 ⟨rfl, b5⟩
  go_wp2
  go_ret
  have hb := yb.trans (b4.mono yb.size)
  exact ⟨rfl, hb.trans (b5.mono hb.size)⟩

set_option maxRecDepth 100000 in
set_option maxHeartbeats 2000000 in
theorem rap_eq (a : Int) (x y n : Nat) (f g q r : Nat → Bool) (HN : Hid (Wd.wid a = n)) (HF : Hid (Wb.ofB n x = f)) (HG : Hid (Wb.ofB n y = g)) (HQ : Hid ((Wb.qr n f g).1 = q)) (HR : Hid ((Wb.qr n f g).2 = r)) (hx : x < 18446744073709551616) (hy : y < 18446744073709551616) (h1 : 1 ≤ n) (h2 : n ≤ 64) (b : Bool) (HE : Hid (((List.range 64).all fun i => f i == g i) = b)) (w : World) :
    Calls Try.prog 32 #[.int .i64 19, .int .i64 a, .int .u64 x, .int .u64 y] w fun e w' => e = .returned (.int .u64 (Wb.val (upd off 0 b) 64 : Nat)) ∧ Below w.heap.size w w' := by
  go_enter Try.func32, Try.ntmps32
  go_wp2_with fail
  refine (wd_rwidth_any _ _).mono ?_
  rintro e w' ⟨rfl, rfl⟩
  rw [HN.out]
  go_wp2_with fail
  refine (of_any n x h2 hx _).mono ?_
  rintro e w1 ⟨rfl, hb1⟩
  rw [HF.out]
  go_wp2_with fail
  refine (of_any n y h2 hy _).mono ?_
  rintro e w2 ⟨rfl, hb2⟩
  rw [HG.out]
  have hs1 := hb1.size
  have hs2 := hb2.size
  have hbb := hb1.trans (hb2.mono hs1)
  have t0 := (Row.new w2 off).alloc (.cells (bw off) 62)
  have t1 := Row.new_at (w2.alloc (.cells (bw off) 62)) off (g := w2.heap.size + 1) (by simp)
  have u0 := t0.row_same f
  have u1 := t1.row_other (k := w2.heap.size) (by omega) (bw f)
  have v0 := u0.row_other (k := w2.heap.size + 1) (by omega) (bw g)
  have v1 := u1.row_same g
  have vb := below_setRow (below_setRow ((hbb.alloc (by omega) (.cells (bw off) 62)).alloc (by simp; omega) (.cells (bw off) 62)) (show w.heap.size ≤ w2.heap.size by omega) (bw f)) (show w.heap.size ≤ w2.heap.size + 1 by omega) (bw g)
  go_upto_region 3 with (first
    | (with_reducible refine alloc_row_at w2.heap.size rfl rfl rfl ?_)
    | (with_reducible refine alloc_row_at (w2.heap.size + 1) (by simp) rfl rfl ?_)
    | (with_reducible refine store_row (.tmp 10) (.tmp 18) _ _ f t0 rfl rfl rfl rfl ?_)
    | (with_reducible refine store_row (.tmp 11) (.tmp 21) _ _ g u1 rfl rfl rfl rfl ?_)
    | fail)
  clear t0 t1 u0 u1 hb1 hb2 hbb
  generalize (((w2.alloc (.cells (bw off) 62)).alloc (.cells (bw off) 62)).setRow w2.heap.size (bw f)).setRow (w2.heap.size + 1) (bw g) = W at *
  generalize w2.heap.size = G at *
  clear hs1 hs2
  go_wp2_with (first
    | (with_reducible refine load_row (.tmp 10) _ _ v0 rfl rfl rfl ?_)
    | (with_reducible refine load_row (.tmp 11) _ _ v1 rfl rfl rfl ?_)
    | fail)
  refine (rdiv_any n f g h1 h2 _).mono ?_
  rintro e w3 ⟨rfl, hb3⟩
  rw [HQ.out, HR.out]
  have x0 := ((v0.below hb3 v0.lt).alloc (.cells (bw off) 62)).alloc (.cells (bw off) 62)
  have x1 := ((v1.below hb3 v1.lt).alloc (.cells (bw off) 62)).alloc (.cells (bw off) 62)
  have l1 : G + 1 < w3.heap.size := by have := v1.lt; have := hb3.size; omega
  have hs3 : w.heap.size ≤ w3.heap.size := by have := hb3.size; have := vb.size; omega
  have t2 := (Row.new w3 off).alloc (.cells (bw off) 62)
  have t3 := Row.new_at (w3.alloc (.cells (bw off) 62)) off (g := w3.heap.size + 1) (by simp)
  have u3 := t3.row_other (k := w3.heap.size) (by omega) (bw q)
  have y0 := (x0.row_other (k := w3.heap.size) (by omega) (bw q)).row_other (k := w3.heap.size + 1) (by omega) (bw r)
  have y1 := (x1.row_other (k := w3.heap.size) (by omega) (bw q)).row_other (k := w3.heap.size + 1) (by omega) (bw r)
  have y2 := (t2.row_same q).row_other (k := w3.heap.size + 1) (by omega) (bw r)
  have y3 := u3.row_same r
  have yb := below_setRow (below_setRow ((((vb.trans (hb3.mono vb.size)).alloc (by omega) (.cells (bw off) 62)).alloc (by simp; omega) (.cells (bw off) 62))) (show w.heap.size ≤ w3.heap.size by omega) (bw q)) (show w.heap.size ≤ w3.heap.size + 1 by omega) (bw r)
  go_upto_region 4 with (first
    | (with_reducible refine alloc_row_at w3.heap.size rfl rfl rfl ?_)
    | (with_reducible refine alloc_row_at (w3.heap.size + 1) (by simp) rfl rfl ?_)
    | (with_reducible refine store_row (.tmp 12) (.tmp 27) _ _ q t2 rfl rfl rfl rfl ?_)
    | (with_reducible refine store_row (.tmp 13) (.tmp 28) _ _ r u3 rfl rfl rfl rfl ?_)
    | fail)
  clear t2 t3 u3 x0 x1 v0 v1 hb3 vb hs3
  generalize (((w3.alloc (.cells (bw off) 62)).alloc (.cells (bw off) 62)).setRow w3.heap.size (bw q)).setRow (w3.heap.size + 1) (bw r) = V at *
  generalize w3.heap.size = H at *
  clear W
  have he := run_eq_rows f g
  rw [HE.out] at he
  go_wp2_with (first
    | (with_reducible refine load_row (.tmp 10) _ _ y0 rfl rfl rfl ?_)
    | (with_reducible refine load_row (.tmp 11) _ _ y1 rfl rfl rfl ?_)
    | fail)
  refine (truth_any _ _).mono ?_
  rintro e w4 ⟨rfl, b4⟩
  go_wp2_with fail
  refine (num_any _ _).mono ?_
  rintro e w5 ⟨rfl, b5⟩
  go_wp2
  go_ret
  have hb := yb.trans (b4.mono yb.size)
  exact ⟨rfl, hb.trans (b5.mono hb.size)⟩

set_option maxRecDepth 100000 in
set_option maxHeartbeats 2000000 in
theorem rap_less (a : Int) (x y n : Nat) (f g q r : Nat → Bool) (HN : Hid (Wd.wid a = n)) (HF : Hid (Wb.ofB n x = f)) (HG : Hid (Wb.ofB n y = g)) (HQ : Hid ((Wb.qr n f g).1 = q)) (HR : Hid ((Wb.qr n f g).2 = r)) (hx : x < 18446744073709551616) (hy : y < 18446744073709551616) (h1 : 1 ≤ n) (h2 : n ≤ 64) (b : Bool) (HL : Hid (decide (Wb.val f n < Wb.val g n) = b)) (w : World) :
    Calls Try.prog 32 #[.int .i64 20, .int .i64 a, .int .u64 x, .int .u64 y] w fun e w' => e = .returned (.int .u64 (Wb.val (upd off 0 b) 64 : Nat)) ∧ Below w.heap.size w w' := by
  go_enter Try.func32, Try.ntmps32
  go_wp2_with fail
  refine (wd_rwidth_any _ _).mono ?_
  rintro e w' ⟨rfl, rfl⟩
  rw [HN.out]
  go_wp2_with fail
  refine (of_any n x h2 hx _).mono ?_
  rintro e w1 ⟨rfl, hb1⟩
  rw [HF.out]
  go_wp2_with fail
  refine (of_any n y h2 hy _).mono ?_
  rintro e w2 ⟨rfl, hb2⟩
  rw [HG.out]
  have hs1 := hb1.size
  have hs2 := hb2.size
  have hbb := hb1.trans (hb2.mono hs1)
  have t0 := (Row.new w2 off).alloc (.cells (bw off) 62)
  have t1 := Row.new_at (w2.alloc (.cells (bw off) 62)) off (g := w2.heap.size + 1) (by simp)
  have u0 := t0.row_same f
  have u1 := t1.row_other (k := w2.heap.size) (by omega) (bw f)
  have v0 := u0.row_other (k := w2.heap.size + 1) (by omega) (bw g)
  have v1 := u1.row_same g
  have vb := below_setRow (below_setRow ((hbb.alloc (by omega) (.cells (bw off) 62)).alloc (by simp; omega) (.cells (bw off) 62)) (show w.heap.size ≤ w2.heap.size by omega) (bw f)) (show w.heap.size ≤ w2.heap.size + 1 by omega) (bw g)
  go_upto_region 3 with (first
    | (with_reducible refine alloc_row_at w2.heap.size rfl rfl rfl ?_)
    | (with_reducible refine alloc_row_at (w2.heap.size + 1) (by simp) rfl rfl ?_)
    | (with_reducible refine store_row (.tmp 10) (.tmp 18) _ _ f t0 rfl rfl rfl rfl ?_)
    | (with_reducible refine store_row (.tmp 11) (.tmp 21) _ _ g u1 rfl rfl rfl rfl ?_)
    | fail)
  clear t0 t1 u0 u1 hb1 hb2 hbb
  generalize (((w2.alloc (.cells (bw off) 62)).alloc (.cells (bw off) 62)).setRow w2.heap.size (bw f)).setRow (w2.heap.size + 1) (bw g) = W at *
  generalize w2.heap.size = G at *
  clear hs1 hs2
  go_wp2_with (first
    | (with_reducible refine load_row (.tmp 10) _ _ v0 rfl rfl rfl ?_)
    | (with_reducible refine load_row (.tmp 11) _ _ v1 rfl rfl rfl ?_)
    | fail)
  refine (rdiv_any n f g h1 h2 _).mono ?_
  rintro e w3 ⟨rfl, hb3⟩
  rw [HQ.out, HR.out]
  have x0 := ((v0.below hb3 v0.lt).alloc (.cells (bw off) 62)).alloc (.cells (bw off) 62)
  have x1 := ((v1.below hb3 v1.lt).alloc (.cells (bw off) 62)).alloc (.cells (bw off) 62)
  have l1 : G + 1 < w3.heap.size := by have := v1.lt; have := hb3.size; omega
  have hs3 : w.heap.size ≤ w3.heap.size := by have := hb3.size; have := vb.size; omega
  have t2 := (Row.new w3 off).alloc (.cells (bw off) 62)
  have t3 := Row.new_at (w3.alloc (.cells (bw off) 62)) off (g := w3.heap.size + 1) (by simp)
  have u3 := t3.row_other (k := w3.heap.size) (by omega) (bw q)
  have y0 := (x0.row_other (k := w3.heap.size) (by omega) (bw q)).row_other (k := w3.heap.size + 1) (by omega) (bw r)
  have y1 := (x1.row_other (k := w3.heap.size) (by omega) (bw q)).row_other (k := w3.heap.size + 1) (by omega) (bw r)
  have y2 := (t2.row_same q).row_other (k := w3.heap.size + 1) (by omega) (bw r)
  have y3 := u3.row_same r
  have yb := below_setRow (below_setRow ((((vb.trans (hb3.mono vb.size)).alloc (by omega) (.cells (bw off) 62)).alloc (by simp; omega) (.cells (bw off) 62))) (show w.heap.size ≤ w3.heap.size by omega) (bw q)) (show w.heap.size ≤ w3.heap.size + 1 by omega) (bw r)
  go_upto_region 4 with (first
    | (with_reducible refine alloc_row_at w3.heap.size rfl rfl rfl ?_)
    | (with_reducible refine alloc_row_at (w3.heap.size + 1) (by simp) rfl rfl ?_)
    | (with_reducible refine store_row (.tmp 12) (.tmp 27) _ _ q t2 rfl rfl rfl rfl ?_)
    | (with_reducible refine store_row (.tmp 13) (.tmp 28) _ _ r u3 rfl rfl rfl rfl ?_)
    | fail)
  clear t2 t3 u3 x0 x1 v0 v1 hb3 vb hs3
  generalize (((w3.alloc (.cells (bw off) 62)).alloc (.cells (bw off) 62)).setRow w3.heap.size (bw q)).setRow (w3.heap.size + 1) (bw r) = V at *
  generalize w3.heap.size = H at *
  clear W
  go_wp2_with (first
    | (with_reducible refine load_row (.tmp 10) _ _ y0 rfl rfl rfl ?_)
    | (with_reducible refine load_row (.tmp 11) _ _ y1 rfl rfl rfl ?_)
    | fail)
  refine (less_any' n f g h2 _).mono ?_
  rintro e w40 ⟨rfl, b40⟩
  rw [HL.out]
  go_wp2_with fail
  have yb' := yb.trans (b40.mono yb.size)
  clear yb b40
  refine (truth_any _ _).mono ?_
  rintro e w4 ⟨rfl, b4⟩
  go_wp2_with fail
  refine (num_any _ _).mono ?_
  rintro e w5 ⟨rfl, b5⟩
  go_wp2
  go_ret
  have hb := yb'.trans (b4.mono yb'.size)
  exact ⟨rfl, hb.trans (b5.mono hb.size)⟩
end Go.Proofs.Ytbjckcjfambpoaa
namespace Go.Proofs.Ytbjckcjfambpoaa
set_option linter.unusedSimpArgs false
set_option linter.unusedVariables false
set_option maxRecDepth 100000
open Go.RowKit

set_option maxRecDepth 100000 in
set_option maxHeartbeats 2000000 in
theorem rap_sub (a : Int) (x y n : Nat) (f g q r : Nat → Bool) (HN : Hid (Wd.wid a = n)) (HF : Hid (Wb.ofB n x = f)) (HG : Hid (Wb.ofB n y = g)) (HQ : Hid ((Wb.qr n f g).1 = q)) (HR : Hid ((Wb.qr n f g).2 = r)) (hx : x < 18446744073709551616) (hy : y < 18446744073709551616) (h1 : 1 ≤ n) (h2 : n ≤ 64) (w : World) :
    Calls Try.prog 32 #[.int .i64 9, .int .i64 a, .int .u64 x, .int .u64 y] w fun e w' => e = .returned (.int .u64 (Wb.val (Wb.addB n f (Wb.notB n g) true) 64 : Nat)) ∧ Below w.heap.size w w' := by
  go_enter Try.func32, Try.ntmps32
  go_wp2_with fail
  refine (wd_rwidth_any _ _).mono ?_
  rintro e w' ⟨rfl, rfl⟩
  rw [HN.out]
  go_wp2_with fail
  refine (of_any n x h2 hx _).mono ?_
  rintro e w1 ⟨rfl, hb1⟩
  rw [HF.out]
  go_wp2_with fail
  refine (of_any n y h2 hy _).mono ?_
  rintro e w2 ⟨rfl, hb2⟩
  rw [HG.out]
  have hs1 := hb1.size
  have hs2 := hb2.size
  have hbb := hb1.trans (hb2.mono hs1)
  have t0 := (Row.new w2 off).alloc (.cells (bw off) 62)
  have t1 := Row.new_at (w2.alloc (.cells (bw off) 62)) off (g := w2.heap.size + 1) (by simp)
  have u0 := t0.row_same f
  have u1 := t1.row_other (k := w2.heap.size) (by omega) (bw f)
  have v0 := u0.row_other (k := w2.heap.size + 1) (by omega) (bw g)
  have v1 := u1.row_same g
  have vb := below_setRow (below_setRow ((hbb.alloc (by omega) (.cells (bw off) 62)).alloc (by simp; omega) (.cells (bw off) 62)) (show w.heap.size ≤ w2.heap.size by omega) (bw f)) (show w.heap.size ≤ w2.heap.size + 1 by omega) (bw g)
  go_upto_region 3 with (first
    | (with_reducible refine alloc_row_at w2.heap.size rfl rfl rfl ?_)
    | (with_reducible refine alloc_row_at (w2.heap.size + 1) (by simp) rfl rfl ?_)
    | (with_reducible refine store_row (.tmp 10) (.tmp 18) _ _ f t0 rfl rfl rfl rfl ?_)
    | (with_reducible refine store_row (.tmp 11) (.tmp 21) _ _ g u1 rfl rfl rfl rfl ?_)
    | fail)
  clear t0 t1 u0 u1 hb1 hb2 hbb
  generalize (((w2.alloc (.cells (bw off) 62)).alloc (.cells (bw off) 62)).setRow w2.heap.size (bw f)).setRow (w2.heap.size + 1) (bw g) = W at *
  generalize w2.heap.size = G at *
  clear hs1 hs2
  go_wp2_with (first
    | (with_reducible refine load_row (.tmp 10) _ _ v0 rfl rfl rfl ?_)
    | (with_reducible refine load_row (.tmp 11) _ _ v1 rfl rfl rfl ?_)
    | fail)
  refine (rdiv_any n f g h1 h2 _).mono ?_
  rintro e w3 ⟨rfl, hb3⟩
  rw [HQ.out, HR.out]
  have x0 := ((v0.below hb3 v0.lt).alloc (.cells (bw off) 62)).alloc (.cells (bw off) 62)
  have x1 := ((v1.below hb3 v1.lt).alloc (.cells (bw off) 62)).alloc (.cells (bw off) 62)
  have l1 : G + 1 < w3.heap.size := by have := v1.lt; have := hb3.size; omega
  have hs3 : w.heap.size ≤ w3.heap.size := by have := hb3.size; have := vb.size; omega
  have t2 := (Row.new w3 off).alloc (.cells (bw off) 62)
  have t3 := Row.new_at (w3.alloc (.cells (bw off) 62)) off (g := w3.heap.size + 1) (by simp)
  have u3 := t3.row_other (k := w3.heap.size) (by omega) (bw q)
  have y0 := (x0.row_other (k := w3.heap.size) (by omega) (bw q)).row_other (k := w3.heap.size + 1) (by omega) (bw r)
  have y1 := (x1.row_other (k := w3.heap.size) (by omega) (bw q)).row_other (k := w3.heap.size + 1) (by omega) (bw r)
  have y2 := (t2.row_same q).row_other (k := w3.heap.size + 1) (by omega) (bw r)
  have y3 := u3.row_same r
  have yb := below_setRow (below_setRow ((((vb.trans (hb3.mono vb.size)).alloc (by omega) (.cells (bw off) 62)).alloc (by simp; omega) (.cells (bw off) 62))) (show w.heap.size ≤ w3.heap.size by omega) (bw q)) (show w.heap.size ≤ w3.heap.size + 1 by omega) (bw r)
  go_upto_region 4 with (first
    | (with_reducible refine alloc_row_at w3.heap.size rfl rfl rfl ?_)
    | (with_reducible refine alloc_row_at (w3.heap.size + 1) (by simp) rfl rfl ?_)
    | (with_reducible refine store_row (.tmp 12) (.tmp 27) _ _ q t2 rfl rfl rfl rfl ?_)
    | (with_reducible refine store_row (.tmp 13) (.tmp 28) _ _ r u3 rfl rfl rfl rfl ?_)
    | fail)
  clear t2 t3 u3 x0 x1 v0 v1 hb3 vb hs3
  generalize (((w3.alloc (.cells (bw off) 62)).alloc (.cells (bw off) 62)).setRow w3.heap.size (bw q)).setRow (w3.heap.size + 1) (bw r) = V at *
  generalize w3.heap.size = H at *
  clear W
  go_wp2
  refine wp_region_any (by kernel_rfl) ?_
  change wpAny _ _ _ _ _ _ _ V.drew
  have a0 : Row V.drew G f := y0
  have a1 : Row V.drew (G + 1) g := y1
  have ab : Below w.heap.size w V.drew := yb.drew
  clear y0 y1 y2 y3 yb
  generalize V.drew = W4 at *
  refine wpAny_take (i := 0) (v := .int .i64 n) rfl (by kernel_rfl) (by kernel_rfl) (by kernel_rfl) (fun _ _ _ h => h) (Or.inl ⟨by rfl, fun _ => rfl⟩) ?_
  refine wpAny_take (i := 2) (v := .int .i64 n) rfl (by kernel_rfl) (by kernel_rfl) (by kernel_rfl) (fun _ _ _ h => h) (Or.inl ⟨by rfl, fun _ => rfl⟩) ?_
  simp [Act.put]
  refine wpAny_ready (rs := [1, 3]) (by kernel_rfl) (by simp) (AllReady.cons rfl (fun K hK => ?_) (AllReady.cons rfl (fun K hK => ?_) AllReady.nil))
  · with_reducible refine step_load (.tmp 10) G f a0 rfl rfl rfl ?_
    refine hK _ _ ?_
    clear hK K
    simp [Act.put]
    refine wpAny_ready (rs := [3]) (by kernel_rfl) (by simp) (AllReady.cons rfl (fun K hK => ?_) AllReady.nil)
    with_reducible refine step_load (.tmp 11) (G + 1) g a1 rfl rfl rfl ?_
    refine hK _ _ ?_
    clear hK K
    simp [Act.put]
    refine wpAny_ready (rs := [4]) (by kernel_rfl) (by simp) (AllReady.cons rfl (fun K hK => ?_) AllReady.nil)
    go_simp
    refine (not_any n g h2 _).mono ?_
    rintro e w5 ⟨rfl, hb5⟩
    refine hK _ _ ?_
    clear hK K
    have b0 := a0.below hb5 a0.lt
    have bb := ab.trans (hb5.mono ab.size)
    clear a0 a1 ab hb5
    refine wpAny_ready (rs := [5]) (by kernel_rfl) (by simp) (AllReady.cons rfl (fun K hK => ?_) AllReady.nil)
    go_simp
    refine (add_any n f (Wb.notB n g) true h2 _).mono ?_
    rintro e w6 ⟨rfl, hb6⟩
    refine hK _ _ ?_
    clear hK K
    have cb := bb.trans (hb6.mono bb.size)
    clear b0 bb hb6
    refine wpAny_ready (rs := [6]) (by kernel_rfl) (by simp) (AllReady.cons rfl (fun K hK => ?_) AllReady.nil)
    go_simp
    refine (num_any _ _).mono ?_
    rintro e w7 ⟨rfl, hb7⟩
    refine hK _ _ ?_
    clear hK K
    have db := cb.trans (hb7.mono cb.size)
    clear cb hb7
    refine wpAny_ready (rs := [7]) (by kernel_rfl) (by simp) (AllReady.cons rfl (fun K hK => ?_) AllReady.nil)
    go_simp
    refine hK _ _ ?_
    clear hK K
    refine wpAny_done (by kernel_rfl) ?_ _
    go_wp2
    go_ret
    exact ⟨rfl, db⟩
  · with_reducible refine step_load (.tmp 11) (G + 1) g a1 rfl rfl rfl ?_
    refine hK _ _ ?_
    clear hK K
    simp [Act.put]
    refine wpAny_ready (rs := [1, 4]) (by kernel_rfl) (by simp) (AllReady.cons rfl (fun K hK => ?_) (AllReady.cons rfl (fun K hK => ?_) AllReady.nil))
    · with_reducible refine step_load (.tmp 10) G f a0 rfl rfl rfl ?_
      refine hK _ _ ?_
      clear hK K
      simp [Act.put]
      refine wpAny_ready (rs := [4]) (by kernel_rfl) (by simp) (AllReady.cons rfl (fun K hK => ?_) AllReady.nil)
      go_simp
      refine (not_any n g h2 _).mono ?_
      rintro e w5 ⟨rfl, hb5⟩
      refine hK _ _ ?_
      clear hK K
      have b0 := a0.below hb5 a0.lt
      have bb := ab.trans (hb5.mono ab.size)
      clear a0 a1 ab hb5
      refine wpAny_ready (rs := [5]) (by kernel_rfl) (by simp) (AllReady.cons rfl (fun K hK => ?_) AllReady.nil)
      go_simp
      refine (add_any n f (Wb.notB n g) true h2 _).mono ?_
      rintro e w6 ⟨rfl, hb6⟩
      refine hK _ _ ?_
      clear hK K
      have cb := bb.trans (hb6.mono bb.size)
      clear b0 bb hb6
      refine wpAny_ready (rs := [6]) (by kernel_rfl) (by simp) (AllReady.cons rfl (fun K hK => ?_) AllReady.nil)
      go_simp
      refine (num_any _ _).mono ?_
      rintro e w7 ⟨rfl, hb7⟩
      refine hK _ _ ?_
      clear hK K
      have db := cb.trans (hb7.mono cb.size)
      clear cb hb7
      refine wpAny_ready (rs := [7]) (by kernel_rfl) (by simp) (AllReady.cons rfl (fun K hK => ?_) AllReady.nil)
      go_simp
      refine hK _ _ ?_
      clear hK K
      refine wpAny_done (by kernel_rfl) ?_ _
      go_wp2
      go_ret
      exact ⟨rfl, db⟩
    · go_simp
      refine (not_any n g h2 _).mono ?_
      rintro e w5 ⟨rfl, hb5⟩
      refine hK _ _ ?_
      clear hK K
      have b0 := a0.below hb5 a0.lt
      have bb := ab.trans (hb5.mono ab.size)
      clear a0 a1 ab hb5
      refine wpAny_ready (rs := [1]) (by kernel_rfl) (by simp) (AllReady.cons rfl (fun K hK => ?_) AllReady.nil)
      with_reducible refine step_load (.tmp 10) G f b0 rfl rfl rfl ?_
      refine hK _ _ ?_
      clear hK K
      simp [Act.put]
      refine wpAny_ready (rs := [5]) (by kernel_rfl) (by simp) (AllReady.cons rfl (fun K hK => ?_) AllReady.nil)
      go_simp
      refine (add_any n f (Wb.notB n g) true h2 _).mono ?_
      rintro e w6 ⟨rfl, hb6⟩
      refine hK _ _ ?_
      clear hK K
      have cb := bb.trans (hb6.mono bb.size)
      clear b0 bb hb6
      refine wpAny_ready (rs := [6]) (by kernel_rfl) (by simp) (AllReady.cons rfl (fun K hK => ?_) AllReady.nil)
      go_simp
      refine (num_any _ _).mono ?_
      rintro e w7 ⟨rfl, hb7⟩
      refine hK _ _ ?_
      clear hK K
      have db := cb.trans (hb7.mono cb.size)
      clear cb hb7
      refine wpAny_ready (rs := [7]) (by kernel_rfl) (by simp) (AllReady.cons rfl (fun K hK => ?_) AllReady.nil)
      go_simp
      refine hK _ _ ?_
      clear hK K
      refine wpAny_done (by kernel_rfl) ?_ _
      go_wp2
      go_ret
      exact ⟨rfl, db⟩

set_option maxRecDepth 100000 in
set_option maxHeartbeats 2000000 in
theorem rap_below1 (a : Int) (x y n : Nat) (f g q r : Nat → Bool) (HN : Hid (Wd.wid a = n)) (HF : Hid (Wb.ofB n x = f)) (HG : Hid (Wb.ofB n y = g)) (HQ : Hid ((Wb.qr n f g).1 = q)) (HR : Hid ((Wb.qr n f g).2 = r)) (hx : x < 18446744073709551616) (hy : y < 18446744073709551616) (h1 : 1 ≤ n) (h2 : n ≤ 64) (hne : (f (n - 1) == g (n - 1)) = false) (w : World) :
    Calls Try.prog 32 #[.int .i64 21, .int .i64 a, .int .u64 x, .int .u64 y] w fun e w' => e = .returned (.int .u64 (Wb.val (upd off 0 (f (n - 1))) 64 : Nat)) ∧ Below w.heap.size w w' := by
  go_enter Try.func32, Try.ntmps32
  go_wp2_with fail
  refine (wd_rwidth_any _ _).mono ?_
  rintro e w' ⟨rfl, rfl⟩
  rw [HN.out]
  go_wp2_with fail
  refine (of_any n x h2 hx _).mono ?_
  rintro e w1 ⟨rfl, hb1⟩
  rw [HF.out]
  go_wp2_with fail
  refine (of_any n y h2 hy _).mono ?_
  rintro e w2 ⟨rfl, hb2⟩
  rw [HG.out]
  have hs1 := hb1.size
  have hs2 := hb2.size
  have hbb := hb1.trans (hb2.mono hs1)
  have t0 := (Row.new w2 off).alloc (.cells (bw off) 62)
  have t1 := Row.new_at (w2.alloc (.cells (bw off) 62)) off (g := w2.heap.size + 1) (by simp)
  have u0 := t0.row_same f
  have u1 := t1.row_other (k := w2.heap.size) (by omega) (bw f)
  have v0 := u0.row_other (k := w2.heap.size + 1) (by omega) (bw g)
  have v1 := u1.row_same g
  have vb := below_setRow (below_setRow ((hbb.alloc (by omega) (.cells (bw off) 62)).alloc (by simp; omega) (.cells (bw off) 62)) (show w.heap.size ≤ w2.heap.size by omega) (bw f)) (show w.heap.size ≤ w2.heap.size + 1 by omega) (bw g)
  go_upto_region 3 with (first
    | (with_reducible refine alloc_row_at w2.heap.size rfl rfl rfl ?_)
    | (with_reducible refine alloc_row_at (w2.heap.size + 1) (by simp) rfl rfl ?_)
    | (with_reducible refine store_row (.tmp 10) (.tmp 18) _ _ f t0 rfl rfl rfl rfl ?_)
    | (with_reducible refine store_row (.tmp 11) (.tmp 21) _ _ g u1 rfl rfl rfl rfl ?_)
    | fail)
  clear t0 t1 u0 u1 hb1 hb2 hbb
  generalize (((w2.alloc (.cells (bw off) 62)).alloc (.cells (bw off) 62)).setRow w2.heap.size (bw f)).setRow (w2.heap.size + 1) (bw g) = W at *
  generalize w2.heap.size = G at *
  clear hs1 hs2
  go_wp2_with (first
    | (with_reducible refine load_row (.tmp 10) _ _ v0 rfl rfl rfl ?_)
    | (with_reducible refine load_row (.tmp 11) _ _ v1 rfl rfl rfl ?_)
    | fail)
  refine (rdiv_any n f g h1 h2 _).mono ?_
  rintro e w3 ⟨rfl, hb3⟩
  rw [HQ.out, HR.out]
  have x0 := ((v0.below hb3 v0.lt).alloc (.cells (bw off) 62)).alloc (.cells (bw off) 62)
  have x1 := ((v1.below hb3 v1.lt).alloc (.cells (bw off) 62)).alloc (.cells (bw off) 62)
  have l1 : G + 1 < w3.heap.size := by have := v1.lt; have := hb3.size; omega
  have hs3 : w.heap.size ≤ w3.heap.size := by have := hb3.size; have := vb.size; omega
  have t2 := (Row.new w3 off).alloc (.cells (bw off) 62)
  have t3 := Row.new_at (w3.alloc (.cells (bw off) 62)) off (g := w3.heap.size + 1) (by simp)
  have u3 := t3.row_other (k := w3.heap.size) (by omega) (bw q)
  have y0 := (x0.row_other (k := w3.heap.size) (by omega) (bw q)).row_other (k := w3.heap.size + 1) (by omega) (bw r)
  have y1 := (x1.row_other (k := w3.heap.size) (by omega) (bw q)).row_other (k := w3.heap.size + 1) (by omega) (bw r)
  have y2 := (t2.row_same q).row_other (k := w3.heap.size + 1) (by omega) (bw r)
  have y3 := u3.row_same r
  have yb := below_setRow (below_setRow ((((vb.trans (hb3.mono vb.size)).alloc (by omega) (.cells (bw off) 62)).alloc (by simp; omega) (.cells (bw off) 62))) (show w.heap.size ≤ w3.heap.size by omega) (bw q)) (show w.heap.size ≤ w3.heap.size + 1 by omega) (bw r)
  go_upto_region 4 with (first
    | (with_reducible refine alloc_row_at w3.heap.size rfl rfl rfl ?_)
    | (with_reducible refine alloc_row_at (w3.heap.size + 1) (by simp) rfl rfl ?_)
    | (with_reducible refine store_row (.tmp 12) (.tmp 27) _ _ q t2 rfl rfl rfl rfl ?_)
    | (with_reducible refine store_row (.tmp 13) (.tmp 28) _ _ r u3 rfl rfl rfl rfl ?_)
    | fail)
  clear t2 t3 u3 x0 x1 v0 v1 hb3 vb hs3
  generalize (((w3.alloc (.cells (bw off) 62)).alloc (.cells (bw off) 62)).setRow w3.heap.size (bw q)).setRow (w3.heap.size + 1) (bw r) = V at *
  generalize w3.heap.size = H at *
  clear W
  have c0 := y0.cell (j := n - 1) (by omega)
  have c1 := y1.cell (j := n - 1) (by omega)
  have hc1 : ((n : Int) - 1).toNat = n - 1 := by omega
  have hc2 : 0 ≤ (n : Int) - 1 := by omega
  have hc3 : (n : Int) - 1 < 64 := by omega
  have y0' := y0
  have y1' := y1
  go_wp2
  go_quiet (fail)
  have z0 := y0.drewN nq
  have z1 := y1.drewN nq
  have zb := below_drewN yb nq
  clear y0 y1 y2 y3 yb y0' y1'
  go_wp2_with fail
  refine (truth_any _ _).mono ?_
  rintro e w4 ⟨rfl, b4⟩
  go_wp2_with fail
  refine (num_any _ _).mono ?_
  rintro e w5 ⟨rfl, b5⟩
  go_wp2
  go_ret
  have hb := zb.trans (b4.mono zb.size)
  exact ⟨rfl, hb.trans (b5.mono hb.size)⟩

set_option maxRecDepth 100000 in
set_option maxHeartbeats 2000000 in
theorem rap_below2 (a : Int) (x y n : Nat) (f g q r : Nat → Bool) (HN : Hid (Wd.wid a = n)) (HF : Hid (Wb.ofB n x = f)) (HG : Hid (Wb.ofB n y = g)) (HQ : Hid ((Wb.qr n f g).1 = q)) (HR : Hid ((Wb.qr n f g).2 = r)) (hx : x < 18446744073709551616) (hy : y < 18446744073709551616) (h1 : 1 ≤ n) (h2 : n ≤ 64) (b : Bool) (HL : Hid (decide (Wb.val f n < Wb.val g n) = b)) (hne : (f (n - 1) == g (n - 1)) = true) (w : World) :
    Calls Try.prog 32 #[.int .i64 21, .int .i64 a, .int .u64 x, .int .u64 y] w fun e w' => e = .returned (.int .u64 (Wb.val (upd off 0 b) 64 : Nat)) ∧ Below w.heap.size w w' := by
  go_enter Try.func32, Try.ntmps32
  go_wp2_with fail
  refine (wd_rwidth_any _ _).mono ?_
  rintro e w' ⟨rfl, rfl⟩
  rw [HN.out]
  go_wp2_with fail
  refine (of_any n x h2 hx _).mono ?_
  rintro e w1 ⟨rfl, hb1⟩
  rw [HF.out]
  go_wp2_with fail
  refine (of_any n y h2 hy _).mono ?_
  rintro e w2 ⟨rfl, hb2⟩
  rw [HG.out]
  have hs1 := hb1.size
  have hs2 := hb2.size
  have hbb := hb1.trans (hb2.mono hs1)
  have t0 := (Row.new w2 off).alloc (.cells (bw off) 62)
  have t1 := Row.new_at (w2.alloc (.cells (bw off) 62)) off (g := w2.heap.size + 1) (by simp)
  have u0 := t0.row_same f
  have u1 := t1.row_other (k := w2.heap.size) (by omega) (bw f)
  have v0 := u0.row_other (k := w2.heap.size + 1) (by omega) (bw g)
  have v1 := u1.row_same g
  have vb := below_setRow (below_setRow ((hbb.alloc (by omega) (.cells (bw off) 62)).alloc (by simp; omega) (.cells (bw off) 62)) (show w.heap.size ≤ w2.heap.size by omega) (bw f)) (show w.heap.size ≤ w2.heap.size + 1 by omega) (bw g)
  go_upto_region 3 with (first
    | (with_reducible refine alloc_row_at w2.heap.size rfl rfl rfl ?_)
    | (with_reducible refine alloc_row_at (w2.heap.size + 1) (by simp) rfl rfl ?_)
    | (with_reducible refine store_row (.tmp 10) (.tmp 18) _ _ f t0 rfl rfl rfl rfl ?_)
    | (with_reducible refine store_row (.tmp 11) (.tmp 21) _ _ g u1 rfl rfl rfl rfl ?_)
    | fail)
  clear t0 t1 u0 u1 hb1 hb2 hbb
  generalize (((w2.alloc (.cells (bw off) 62)).alloc (.cells (bw off) 62)).setRow w2.heap.size (bw f)).setRow (w2.heap.size + 1) (bw g) = W at *
  generalize w2.heap.size = G at *
  clear hs1 hs2
  go_wp2_with (first
    | (with_reducible refine load_row (.tmp 10) _ _ v0 rfl rfl rfl ?_)
    | (with_reducible refine load_row (.tmp 11) _ _ v1 rfl rfl rfl ?_)
    | fail)
  refine (rdiv_any n f g h1 h2 _).mono ?_
  rintro e w3 ⟨rfl, hb3⟩
  rw [HQ.out, HR.out]
  have x0 := ((v0.below hb3 v0.lt).alloc (.cells (bw off) 62)).alloc (.cells (bw off) 62)
  have x1 := ((v1.below hb3 v1.lt).alloc (.cells (bw off) 62)).alloc (.cells (bw off) 62)
  have l1 : G + 1 < w3.heap.size := by have := v1.lt; have := hb3.size; omega
  have hs3 : w.heap.size ≤ w3.heap.size := by have := hb3.size; have := vb.size; omega
  have t2 := (Row.new w3 off).alloc (.cells (bw off) 62)
  have t3 := Row.new_at (w3.alloc (.cells (bw off) 62)) off (g := w3.heap.size + 1) (by simp)
  have u3 := t3.row_other (k := w3.heap.size) (by omega) (bw q)
  have y0 := (x0.row_other (k := w3.heap.size) (by omega) (bw q)).row_other (k := w3.heap.size + 1) (by omega) (bw r)
  have y1 := (x1.row_other (k := w3.heap.size) (by omega) (bw q)).row_other (k := w3.heap.size + 1) (by omega) (bw r)
  have y2 := (t2.row_same q).row_other (k := w3.heap.size + 1) (by omega) (bw r)
  have y3 := u3.row_same r
  have yb := below_setRow (below_setRow ((((vb.trans (hb3.mono vb.size)).alloc (by omega) (.cells (bw off) 62)).alloc (by simp; omega) (.cells (bw off) 62))) (show w.heap.size ≤ w3.heap.size by omega) (bw q)) (show w.heap.size ≤ w3.heap.size + 1 by omega) (bw r)
  go_upto_region 4 with (first
    | (with_reducible refine alloc_row_at w3.heap.size rfl rfl rfl ?_)
    | (with_reducible refine alloc_row_at (w3.heap.size + 1) (by simp) rfl rfl ?_)
    | (with_reducible refine store_row (.tmp 12) (.tmp 27) _ _ q t2 rfl rfl rfl rfl ?_)
    | (with_reducible refine store_row (.tmp 13) (.tmp 28) _ _ r u3 rfl rfl rfl rfl ?_)
    | fail)
  clear t2 t3 u3 x0 x1 v0 v1 hb3 vb hs3
  generalize (((w3.alloc (.cells (bw off) 62)).alloc (.cells (bw off) 62)).setRow w3.heap.size (bw q)).setRow (w3.heap.size + 1) (bw r) = V at *
  generalize w3.heap.size = H at *
  clear W
  have c0 := y0.cell (j := n - 1) (by omega)
  have c1 := y1.cell (j := n - 1) (by omega)
  have hc1 : ((n : Int) - 1).toNat = n - 1 := by omega
  have hc2 : 0 ≤ (n : Int) - 1 := by omega
  have hc3 : (n : Int) - 1 < 64 := by omega
  have y0' := y0
  have y1' := y1
  go_wp2
  go_quiet (fail)
  have z0 := y0.drewN nq
  have z1 := y1.drewN nq
  have zb := below_drewN yb nq
  clear y0 y1 y2 y3 yb y0' y1'
  go_wp2_with (first
    | (with_reducible refine load_row (.tmp 10) _ _ z0 rfl rfl rfl ?_)
    | (with_reducible refine load_row (.tmp 11) _ _ z1 rfl rfl rfl ?_)
    | fail)
  refine (less_any' n f g h2 _).mono ?_
  rintro e w40 ⟨rfl, b40⟩
  rw [HL.out]
  go_wp2_with fail
  have yb' := zb.trans (b40.mono zb.size)
  clear zb b40
  refine (truth_any _ _).mono ?_
  rintro e w4 ⟨rfl, b4⟩
  go_wp2_with fail
  refine (num_any _ _).mono ?_
  rintro e w5 ⟨rfl, b5⟩
  go_wp2
  go_ret
  have hb := yb'.trans (b4.mono yb'.size)
  exact ⟨rfl, hb.trans (b5.mono hb.size)⟩
end Go.Proofs.Ytbjckcjfambpoaa
namespace Go.Proofs.Ytbjckcjfambpoaa
set_option linter.unusedSimpArgs false
set_option linter.unusedVariables false
set_option maxRecDepth 100000
namespace Wb

theorem val_bit (f : Nat → Bool) : ∀ k i, (val f k).testBit i = (decide (i < k) && f i)
  | 0, i => by simp [val]
  | k + 1, i => by
    have hl := val_lt f k
    have ih := val_bit f k i
    rw [val]
    by_cases h : f k = true
    · rw [if_pos h, Nat.add_comm]
      rcases Nat.lt_trichotomy i k with hi | hi | hi
      · rw [Nat.testBit_two_pow_add_gt hi, ih]; simp [hi]; omega
      · subst hi; rw [Nat.testBit_two_pow_add_eq, ih]; simp [h]
      · have : 2 ^ k + val f k < 2 ^ i := by
          have : 2 ^ (k + 1) ≤ 2 ^ i := Nat.pow_le_pow_right (by decide) (by omega)
          rw [Nat.pow_succ] at this; omega
        rw [Nat.testBit_lt_two_pow this, show decide (i < k + 1) = false from by simp; omega]; rfl
    · rw [if_neg h, Nat.add_zero, ih]
      by_cases e : i = k
      · subst e; simp at h; simp [h]
      · congr 1; simp; omega
theorem val_half (f : Nat → Bool) (n k : Nat) (h : k < n) : val f n / 2 ^ k = 2 * (val f n / 2 ^ (k + 1)) + (if f k then 1 else 0) := by
  have hb := val_bit f n k
  rw [Nat.testBit_eq_decide_div_mod_eq] at hb
  have e : val f n / 2 ^ (k + 1) = val f n / 2 ^ k / 2 := by rw [Nat.div_div_eq_div_mul, Nat.pow_succ]
  rw [e]
  generalize val f n / 2 ^ k = t at *
  have hk : decide (k < n) = true := by simpa using h
  rw [hk, Bool.true_and] at hb
  split
  · rename_i hf; rw [hf] at hb; have := of_decide_eq_true hb; omega
  · rename_i hf
    have hf' : f k = false := by simpa using hf
    rw [hf'] at hb; have := of_decide_eq_false hb; omega
theorem top_bit (f : Nat → Bool) (n : Nat) (h1 : 1 ≤ n) : f (n - 1) = decide (2 ^ (n - 1) ≤ val f n) := by
  obtain ⟨m, rfl⟩ : ∃ m, n = m + 1 := ⟨n - 1, by omega⟩
  have := val_lt f m
  rw [Nat.add_sub_cancel, val]
  cases f m <;> simp <;> omega
theorem val_truth (b : Bool) : val (upd off 0 b) 64 = if b then 1 else 0 := by
  have h : Sup 1 (upd off 0 b) := fun i hi => by unfold upd; rw [if_neg (by omega)]; rfl
  have := val_sup h 63
  rw [this]
  cases b <;> rfl
theorem val_upd {f : Nat → Bool} {i : Nat} (hf : f i = false) : ∀ n, i < n → val (upd f i true) n = val f n + 2 ^ i
  | 0, h => by omega
  | n + 1, h => by
    rw [val, val]
    by_cases e : i = n
    · subst e
      have : val (upd f i true) i = val f i := val_congr i (fun j hj => by unfold upd; rw [if_neg (by omega)])
      rw [this, hf]; simp [upd]
    · rw [val_upd hf n (by omega), show upd f i true n = f n from by unfold upd; rw [if_neg (fun q => e q.symm)]]; omega

/-! ### Mul, moved -/
theorem val_mulX (n : Nat) (f : Nat → Bool) (h1 : 1 ≤ n) : ∀ k, val (mulX n f k) n = (val f n * 2 ^ k) % 2 ^ n
  | 0 => by rw [mulX, Nat.pow_zero, Nat.mul_one, Nat.mod_eq_of_lt (val_lt f n)]
  | k + 1 => by
    rw [mulX, val_upB n _ _ h1, val_mulX n f h1 k]
    simp only [Bool.false_eq_true, if_false, Nat.add_zero]
    rw [Nat.mul_mod, Nat.mod_mod, ← Nat.mul_mod, Nat.pow_succ]
    congr 1
    rw [Nat.mul_comm 2, Nat.mul_assoc]
theorem val_mulO (n : Nat) (f g : Nat → Bool) (h1 : 1 ≤ n) : ∀ k, val (mulO n f g k) n = (val f n * val g k) % 2 ^ n
  | 0 => by rw [mulO, val_off, val, Nat.mul_zero, Nat.zero_mod]
  | k + 1 => by
    rw [mulO, val]
    split
    · rw [val_addB, val_mulO n f g h1 k, val_mulX n f h1 k]
      simp only [Bool.false_eq_true, if_false, Nat.add_zero]
      rw [Nat.mul_add, ← Nat.add_mod]
    · rw [val_mulO n f g h1 k, Nat.add_zero]
theorem mulO_sup (n : Nat) (f g : Nat → Bool) : ∀ k, Sup n (mulO n f g k)
  | 0 => fun _ _ => rfl
  | k + 1 => by
    rw [mulO]; split
    · exact addB_sup _ _ _ _
    · exact mulO_sup n f g k
theorem val_movU (n : Nat) (f : Nat → Bool) (h1 : 1 ≤ n) : ∀ k, val (movU n f k) n = (val f n * 2 ^ k) % 2 ^ n
  | 0 => by rw [movU, Nat.pow_zero, Nat.mul_one, Nat.mod_eq_of_lt (val_lt f n)]
  | k + 1 => by
    rw [movU, val_upB n _ _ h1, val_movU n f h1 k]
    simp only [Bool.false_eq_true, if_false, Nat.add_zero]
    rw [Nat.mul_mod, Nat.mod_mod, ← Nat.mul_mod, Nat.pow_succ]
    congr 1
    rw [Nat.mul_comm 2, Nat.mul_assoc]
theorem movU_sup (n : Nat) (f : Nat → Bool) (h1 : 1 ≤ n) (hf : Sup n f) : ∀ k, Sup n (movU n f k)
  | 0 => hf
  | _ + 1 => upB_sup _ _ _ h1
theorem movD_sup (n : Nat) (f : Nat → Bool) (b : Bool) (hf : Sup n f) : ∀ k, Sup n (movD n f b k)
  | 0 => hf
  | _ + 1 => downB_sup _ _ _
theorem val_movD (n : Nat) (f : Nat → Bool) (b : Bool) (h1 : 1 ≤ n) : ∀ k, ((val (movD n f b k) n : Nat) : Int) = ((val f n : Nat) - (if b then ((2 ^ n : Nat) : Int) else 0)) / ((2 ^ k : Nat) : Int) + (if b then ((2 ^ n : Nat) : Int) else 0)
  | 0 => by rw [movD, Nat.pow_zero, Int.natCast_one, Int.ediv_one]; omega
  | k + 1 => by
    have ih := val_movD n f b h1 k
    rw [movD, val_downB n _ _ h1]
    generalize ((val f n : Nat) - (if b then ((2 ^ n : Nat) : Int) else 0) : Int) = s at *
    have e : s / ((2 ^ (k + 1) : Nat) : Int) = s / ((2 ^ k : Nat) : Int) / 2 := by
      rw [Int.ediv_ediv_of_nonneg (Int.natCast_nonneg _), Nat.pow_succ, Int.natCast_mul]; rfl
    rw [e]
    generalize s / ((2 ^ k : Nat) : Int) = t at *
    have hp : 2 ^ n = 2 ^ (n - 1) * 2 := by rw [← Nat.pow_succ]; congr 1; omega
    rw [hp] at ih ⊢
    generalize 2 ^ (n - 1) = p at *
    generalize val (movD n f b k) n = v at *
    cases b
    · simp only [Bool.false_eq_true, if_false] at ih ⊢; omega
    · simp only [if_true] at ih ⊢; omega

/-! ### Div -/
structure DvOk (n : Nat) (f g : Nat → Bool) (m : Nat) (q r : Nat → Bool) : Prop where
  rest : val r n = (val f n / 2 ^ (n - m)) % val g n
  quot : val q n = (val f n / 2 ^ (n - m)) / val g n * 2 ^ (n - m)
  low : ∀ i, i < n - m → q i = false
  supq : Sup n q
  supr : Sup n r
theorem dv_ok (n : Nat) (f g : Nat → Bool) (h1 : 1 ≤ n) (hy : 0 < val g n) : ∀ m, m ≤ n → DvOk n f g m (dv n f g m).1 (dv n f g m).2
  | 0, _ => by
    have e : val f n / 2 ^ n = 0 := Nat.div_eq_of_lt (val_lt f n)
    refine ⟨?_, ?_, fun _ _ => rfl, fun _ _ => rfl, fun _ _ => rfl⟩
    · rw [Nat.sub_zero, e, Nat.zero_mod]; exact val_off n
    · rw [Nat.sub_zero, e, Nat.zero_div, Nat.zero_mul]; exact val_off n
  | m + 1, hm => by
    have ih := dv_ok n f g h1 hy m (by omega)
    have hs := dv.eq_2 n f g m
    obtain ⟨e1, e2, e3, e4, e5⟩ := ih
    generalize (dv n f g m).1 = q at *
    generalize (dv n f g m).2 = r at *
    have hT := val_half f n (n - 1 - m) (by omega)
    rw [show n - 1 - m + 1 = n - m from by omega] at hT
    have hnm : n - (m + 1) = n - 1 - m := by omega
    have fin : ∀ q' r', val r' n = (val f n / 2 ^ (n - 1 - m)) % val g n → val q' n = (val f n / 2 ^ (n - 1 - m)) / val g n * 2 ^ (n - 1 - m) → (∀ i, i < n - 1 - m → q' i = false) → Sup n q' → Sup n r' → DvOk n f g (m + 1) q' r' :=
      fun q' r' a b c d e => ⟨by rw [hnm]; exact a, by rw [hnm]; exact b, by rw [hnm]; exact c, d, e⟩
    have hpow : 2 ^ (n - m) = 2 ^ (n - 1 - m) * 2 := by rw [← Nat.pow_succ]; congr 1; omega
    have hYlt := val_lt g n
    have hR : val r n < val g n := by rw [e1]; exact Nat.mod_lt _ hy
    have hov := top_bit r n h1
    have hup := val_upB n r (f (n - 1 - m)) h1
    have hpn : 2 ^ n = 2 ^ (n - 1) * 2 := by rw [← Nat.pow_succ]; congr 1; omega
    have hnot := val_notB n g
    have hadd := val_addB n (upB n r (f (n - 1 - m))) (notB n g) true
    have hqi := e3 (n - 1 - m) (by omega)
    have hupd := val_upd hqi n (by omega)
    have hb : (if f (n - 1 - m) = true then 1 else 0) ≤ 1 := by split <;> omega
    have hdm := Nat.div_add_mod (val f n / 2 ^ (n - m)) (val g n)
    rw [← e1] at hdm
    generalize (if f (n - 1 - m) = true then 1 else 0) = b at *
    generalize hTT : val f n / 2 ^ (n - m) = T at *
    generalize val f n / 2 ^ (n - 1 - m) = T' at *
    generalize val g n = Y at *
    generalize val r n = R at *
    have key : ((r (n - 1) || !decide (val (upB n r (f (n - 1 - m))) n < Y)) = true ↔ Y ≤ 2 * R + b) ∧ (Y ≤ 2 * R + b → val (addB n (upB n r (f (n - 1 - m))) (notB n g) true) n = 2 * R + b - Y) ∧ (¬ Y ≤ 2 * R + b → val (upB n r (f (n - 1 - m))) n = 2 * R + b) := by
      rw [hadd, hnot, hup, hov]
      simp only [if_true]
      by_cases ho : 2 ^ (n - 1) ≤ R
      · have e6 : (2 * R + b) % 2 ^ n = 2 * R + b - 2 ^ n := by
          rw [Nat.mod_eq_sub_mod (by omega), Nat.mod_eq_of_lt (by omega)]
        rw [e6]
        refine ⟨by simp [ho]; omega, fun _ => ?_, fun h => by omega⟩
        rw [show 2 * R + b - 2 ^ n + (2 ^ n - 1 - Y) + 1 = 2 * R + b - Y from by omega, Nat.mod_eq_of_lt (by omega)]
      · have e6 : (2 * R + b) % 2 ^ n = 2 * R + b := Nat.mod_eq_of_lt (by omega)
        rw [e6]
        refine ⟨by simp [ho], fun h => ?_, fun _ => rfl⟩
        rw [show 2 * R + b + (2 ^ n - 1 - Y) + 1 = (2 * R + b - Y) + 2 ^ n from by omega, Nat.add_mod_right, Nat.mod_eq_of_lt (by omega)]
    obtain ⟨k1, k2, k3⟩ := key
    have hT2 : T' = Y * (2 * (T / Y)) + (2 * R + b) := by
      rw [hT, ← Nat.mul_assoc, Nat.mul_comm Y 2, Nat.mul_assoc]; omega
    rw [hs]
    by_cases hc : Y ≤ 2 * R + b
    · rw [if_pos (k1.2 hc)]
      have hT3 : T' = (2 * R + b - Y) + Y * (2 * (T / Y) + 1) := by rw [hT2, Nat.mul_add, Nat.mul_one]; omega
      have d1 : T' / Y = 2 * (T / Y) + 1 := by
        rw [hT3, Nat.add_mul_div_left _ _ hy, Nat.div_eq_of_lt (by omega), Nat.zero_add]
      have d2 : T' % Y = 2 * R + b - Y := by
        rw [hT3, Nat.add_mul_mod_self_left, Nat.mod_eq_of_lt (by omega)]
      refine fin _ _ ?_ ?_ ?_ ?_ (addB_sup _ _ _ _)
      · show val (addB n (upB n r (f (n - 1 - m))) (notB n g) true) n = _
        rw [k2 hc, d2]
      · show val (upd q (n - 1 - m) true) n = _
        rw [hupd, e2, d1, hpow, Nat.add_mul, Nat.one_mul, Nat.mul_comm 2, Nat.mul_assoc, Nat.mul_comm 2 (2 ^ (n - 1 - m))]
      · intro i hi
        show upd q (n - 1 - m) true i = false
        unfold upd; rw [if_neg (by omega)]; exact e3 i (by omega)
      · intro i hi
        show upd q (n - 1 - m) true i = false
        unfold upd; rw [if_neg (by omega)]; exact e4 i hi
    · rw [if_neg (fun h => hc (k1.1 h))]
      have hT3 : T' = (2 * R + b) + Y * (2 * (T / Y)) := by rw [hT2]; omega
      have d1 : T' / Y = 2 * (T / Y) := by
        rw [hT3, Nat.add_mul_div_left _ _ hy, Nat.div_eq_of_lt (by omega), Nat.zero_add]
      have d2 : T' % Y = 2 * R + b := by
        rw [hT3, Nat.add_mul_mod_self_left, Nat.mod_eq_of_lt (by omega)]
      refine fin _ _ ?_ ?_ ?_ e4 (upB_sup _ _ _ h1)
      · show val (upB n r (f (n - 1 - m))) n = _
        rw [k3 hc, d2]
      · show val q n = _
        rw [e2, d1, hpow, Nat.mul_comm 2, Nat.mul_assoc, Nat.mul_comm 2 (2 ^ (n - 1 - m))]
      · intro i hi
        exact e3 i (by omega)
end Wb
end Go.Proofs.Ytbjckcjfambpoaa
namespace Go.Proofs.Ytbjckcjfambpoaa
set_option linter.unusedSimpArgs false
set_option linter.unusedVariables false
set_option maxRecDepth 100000
namespace Wb
variable (a : Int) (x y : Nat)

theorem vX : val (ofB (Wd.wid a) x) (Wd.wid a) = x % 2 ^ Wd.wid a := val_ofB _ _
theorem vX64 : val (ofB (Wd.wid a) x) 64 = x % 2 ^ Wd.wid a := by rw [val_sup64 (ofB_sup _ _) (Wd.wid_hi a), vX]
theorem cX : Wd.cut a (x : Int) = ((x % 2 ^ Wd.wid a : Nat) : Int) := Wd.cut_nat a x
theorem lX : x % 2 ^ Wd.wid a < 2 ^ Wd.wid a := Nat.mod_lt _ (Nat.two_pow_pos _)
theorem mN : Wd.msk a = ((2 ^ Wd.wid a - 1 : Nat) : Int) := by
  unfold Wd.msk; rw [Wd.pw_nat]; have := Nat.two_pow_pos (Wd.wid a); omega

theorem j_mask : ((val (notB (Wd.wid a) off) 64 : Nat) : Int) = Wd.msk a := by
  rw [val_sup64 (notB_sup _ _) (Wd.wid_hi a), val_notB, val_off, mN, Nat.sub_zero]
theorem j_cut : ((val (ofB (Wd.wid a) x) 64 : Nat) : Int) = Wd.cut a x := by rw [vX64, cX]
theorem j_not : ((val (notB (Wd.wid a) (ofB (Wd.wid a) x)) 64 : Nat) : Int) = Wd.app 5 a x y := by
  rw [val_sup64 (notB_sup _ _) (Wd.wid_hi a), val_notB, vX, Wd.app5, mN, cX]
  have := lX a x; omega
theorem j_add : ((val (addB (Wd.wid a) (ofB (Wd.wid a) x) (ofB (Wd.wid a) y) false) 64 : Nat) : Int) = Wd.app 8 a x y := by
  rw [val_sup64 (addB_sup _ _ _ _) (Wd.wid_hi a), val_addB, vX, vX, Wd.app8]
  simp only [Bool.false_eq_true, if_false, Nat.add_zero]
  rw [← Nat.add_mod, show (x : Int) + (y : Int) = ((x + y : Nat) : Int) from by omega, Wd.cut_nat]
theorem j_sub : ((val (addB (Wd.wid a) (ofB (Wd.wid a) x) (notB (Wd.wid a) (ofB (Wd.wid a) y)) true) 64 : Nat) : Int) = Wd.app 9 a x y := by
  rw [val_sup64 (addB_sup _ _ _ _) (Wd.wid_hi a), val_addB, val_notB, vX, vX, Wd.app9, ← Wd.cut_sub_l, ← Wd.cut_sub_r, cX, cX]
  simp only [if_true]
  have h1 := lX a x
  have h2 := lX a y
  generalize x % 2 ^ Wd.wid a = X at *
  generalize y % 2 ^ Wd.wid a = Y at *
  rw [show X + (2 ^ Wd.wid a - 1 - Y) + 1 = X + 2 ^ Wd.wid a - Y from by omega]
  have e : ((X : Int) - Y) = ((X + 2 ^ Wd.wid a - Y : Nat) : Int) + Wd.pw (Wd.wid a) * (-1) := by rw [Wd.pw_nat]; omega
  rw [e]
  unfold Wd.cut
  rw [Int.add_mul_emod_self_left, Wd.pw_nat]
  exact Int.natCast_emod _ _
theorem j_mul : ((val (mulO (Wd.wid a) (ofB (Wd.wid a) x) (ofB (Wd.wid a) y) (Wd.wid a)) 64 : Nat) : Int) = Wd.app 10 a x y := by
  rw [val_sup64 (mulO_sup _ _ _ _) (Wd.wid_hi a), val_mulO _ _ _ (Wd.wid_lo a), vX, vX, Wd.app10, ← Nat.mul_mod, ← Int.natCast_mul, Wd.cut_nat]
theorem qr_zero (h : y % 2 ^ Wd.wid a = 0) : qr (Wd.wid a) (ofB (Wd.wid a) x) (ofB (Wd.wid a) y) = (notB (Wd.wid a) off, ofB (Wd.wid a) x) := if_pos (by rw [vX64]; exact h)
theorem qr_pos (h : ¬ y % 2 ^ Wd.wid a = 0) : qr (Wd.wid a) (ofB (Wd.wid a) x) (ofB (Wd.wid a) y) = dv (Wd.wid a) (ofB (Wd.wid a) x) (ofB (Wd.wid a) y) (Wd.wid a) := if_neg (by rw [vX64]; exact h)
theorem j_div : ((val (qr (Wd.wid a) (ofB (Wd.wid a) x) (ofB (Wd.wid a) y)).1 64 : Nat) : Int) = Wd.app 11 a x y := by
  rw [Wd.app11, cX, cX]
  by_cases h : y % 2 ^ Wd.wid a = 0
  · rw [qr_zero a x y h, if_pos (by omega)]; exact j_mask a
  · rw [qr_pos a x y h, if_neg (by omega)]
    have hd := dv_ok (Wd.wid a) (ofB (Wd.wid a) x) (ofB (Wd.wid a) y) (Wd.wid_lo a) (by rw [vX]; omega) (Wd.wid a) (Nat.le_refl _)
    rw [val_sup64 hd.supq (Wd.wid_hi a), hd.quot, Nat.sub_self, Nat.pow_zero, Nat.mul_one, Nat.div_one, vX, vX]
    exact Int.natCast_ediv _ _
theorem j_rem : ((val (qr (Wd.wid a) (ofB (Wd.wid a) x) (ofB (Wd.wid a) y)).2 64 : Nat) : Int) = Wd.app 12 a x y := by
  rw [Wd.app12, cX, cX]
  by_cases h : y % 2 ^ Wd.wid a = 0
  · rw [qr_zero a x y h, if_pos (by omega), vX64]
  · rw [qr_pos a x y h, if_neg (by omega)]
    have hd := dv_ok (Wd.wid a) (ofB (Wd.wid a) x) (ofB (Wd.wid a) y) (Wd.wid_lo a) (by rw [vX]; omega) (Wd.wid a) (Nat.le_refl _)
    rw [val_sup64 hd.supr (Wd.wid_hi a), hd.rest, Nat.sub_self, Nat.pow_zero, Nat.div_one, vX, vX]
    exact Int.natCast_emod _ _
theorem val_bits (n : Nat) (o : Bool → Bool → Bool) (f g : Nat → Bool) (z : Nat) (h : ∀ i, z.testBit i = (decide (i < n) && o (f i) (g i))) : val (bitB n o f g) n = z := by
  apply Nat.eq_of_testBit_eq
  intro i
  rw [val_bit, h]
  by_cases e : i < n <;> simp [bitB, e]
theorem j_and : ((val (bitB (Wd.wid a) and (ofB (Wd.wid a) x) (ofB (Wd.wid a) y)) 64 : Nat) : Int) = Wd.app 13 a x y := by
  rw [val_sup64 (bitB_sup _ _ _ _) (Wd.wid_hi a)]
  show _ = (((Wd.cut a x).toNat &&& (Wd.cut a y).toNat : Nat) : Int)
  rw [cX, cX, Int.toNat_natCast, Int.toNat_natCast, ← vX, ← vX]
  congr 1
  refine val_bits _ _ _ _ _ (fun i => ?_)
  rw [Nat.testBit_and, val_bit, val_bit]
  by_cases e : i < Wd.wid a <;> simp [e]
theorem j_or : ((val (bitB (Wd.wid a) or (ofB (Wd.wid a) x) (ofB (Wd.wid a) y)) 64 : Nat) : Int) = Wd.app 14 a x y := by
  rw [val_sup64 (bitB_sup _ _ _ _) (Wd.wid_hi a)]
  show _ = (((Wd.cut a x).toNat ||| (Wd.cut a y).toNat : Nat) : Int)
  rw [cX, cX, Int.toNat_natCast, Int.toNat_natCast, ← vX, ← vX]
  congr 1
  refine val_bits _ _ _ _ _ (fun i => ?_)
  rw [Nat.testBit_or, val_bit, val_bit]
  by_cases e : i < Wd.wid a <;> simp [e]
theorem j_xor : ((val (bitB (Wd.wid a) bne (ofB (Wd.wid a) x) (ofB (Wd.wid a) y)) 64 : Nat) : Int) = Wd.app 15 a x y := by
  rw [val_sup64 (bitB_sup _ _ _ _) (Wd.wid_hi a)]
  show _ = (((Wd.cut a x).toNat ^^^ (Wd.cut a y).toNat : Nat) : Int)
  rw [cX, cX, Int.toNat_natCast, Int.toNat_natCast, ← vX, ← vX]
  congr 1
  refine val_bits _ _ _ _ _ (fun i => ?_)
  rw [Nat.testBit_xor, val_bit, val_bit]
  by_cases e : i < Wd.wid a <;> simp [e]
theorem shY : Wd.sh (Wd.cut a y) = min (y % 2 ^ Wd.wid a) 64 := by rw [cX]; unfold Wd.sh; rw [Int.toNat_natCast]
theorem j_shl : ((val (movU (Wd.wid a) (ofB (Wd.wid a) x) (min (Wd.wid a) (val (ofB (Wd.wid a) y) 64))) 64 : Nat) : Int) = Wd.app 16 a x y := by
  rw [val_sup64 (movU_sup _ _ (Wd.wid_lo a) (ofB_sup _ _) _) (Wd.wid_hi a), val_movU _ _ (Wd.wid_lo a), vX, vX64, Wd.app16, shY, cX, Wd.pw_nat, ← Int.natCast_mul, Wd.cut_nat]
  congr 1
  have hw := Wd.wid_hi a
  by_cases h : y % 2 ^ Wd.wid a ≤ Wd.wid a
  · rw [Nat.min_eq_right h, Nat.min_eq_left (by omega)]
  · rw [Nat.min_eq_left (by omega), Nat.mul_mod_left]
    have e : min (y % 2 ^ Wd.wid a) 64 = Wd.wid a + (min (y % 2 ^ Wd.wid a) 64 - Wd.wid a) := by omega
    rw [e, Nat.pow_add, ← Nat.mul_assoc, Nat.mul_comm (x % 2 ^ Wd.wid a), Nat.mul_assoc, Nat.mul_mod_right]
theorem j_shr : ((val (movD (Wd.wid a) (ofB (Wd.wid a) x) false (min (Wd.wid a) (val (ofB (Wd.wid a) y) 64))) 64 : Nat) : Int) = Wd.app 17 a x y := by
  rw [val_sup64 (movD_sup _ _ _ (ofB_sup _ _) _) (Wd.wid_hi a), val_movD _ _ _ (Wd.wid_lo a), vX, vX64, Wd.app17, shY, cX, Wd.pw_nat]
  simp only [Bool.false_eq_true, if_false, Int.sub_zero, Int.add_zero]
  have hw := Wd.wid_hi a
  have hx := lX a x
  by_cases h : y % 2 ^ Wd.wid a ≤ Wd.wid a
  · rw [Nat.min_eq_right h, Nat.min_eq_left (by omega)]
  · rw [Nat.min_eq_left (by omega)]
    have h2 : 2 ^ Wd.wid a ≤ 2 ^ min (y % 2 ^ Wd.wid a) 64 := Nat.pow_le_pow_right (by decide) (by omega)
    rw [Int.ediv_eq_zero_of_lt (by omega) (by omega), Int.ediv_eq_zero_of_lt (by omega) (by omega)]
theorem topX : ofB (Wd.wid a) x (Wd.wid a - 1) = decide (Wd.hib a ≤ Wd.cut a x) := by
  rw [top_bit (ofB (Wd.wid a) x) (Wd.wid a) (Wd.wid_lo a), vX, cX]
  have e : Wd.hib a = ((2 ^ (Wd.wid a - 1) : Nat) : Int) := by unfold Wd.hib; rw [Wd.pw_nat]
  rw [e]
  congr 1; rw [eq_iff_iff]; omega
theorem sgnX : Wd.sgn a x = ((x % 2 ^ Wd.wid a : Nat) : Int) - (if ofB (Wd.wid a) x (Wd.wid a - 1) then ((2 ^ Wd.wid a : Nat) : Int) else 0) := by
  rw [topX]
  unfold Wd.sgn
  rw [Wd.pw_nat, ← cX]
  by_cases h : Wd.cut a x < Wd.hib a
  · rw [if_pos h, if_neg (by simp; omega)]; omega
  · rw [if_neg h, if_pos (by simp; omega)]
theorem j_sign : sg (Wd.wid a) (ofB (Wd.wid a) x) (Wd.wid a) = Wd.sgn a x := by
  have h := sg_val (Wd.wid a) (ofB (Wd.wid a) x) (Wd.wid a) (Nat.le_refl _)
  rw [Nat.sub_self, Nat.pow_zero, val, vX] at h
  rw [sgnX, ← h]; omega
theorem j_sar : ((val (movD (Wd.wid a) (ofB (Wd.wid a) x) (ofB (Wd.wid a) x (Wd.wid a - 1)) (min (Wd.wid a) (val (ofB (Wd.wid a) y) 64))) 64 : Nat) : Int) = Wd.app 18 a x y := by
  rw [val_sup64 (movD_sup _ _ _ (ofB_sup _ _) _) (Wd.wid_hi a), Wd.app18, shY, vX64]
  have hv := val_movD (Wd.wid a) (ofB (Wd.wid a) x) (ofB (Wd.wid a) x (Wd.wid a - 1)) (Wd.wid_lo a) (min (Wd.wid a) (y % 2 ^ Wd.wid a))
  rw [vX, ← sgnX] at hv
  have hlt := val_lt (movD (Wd.wid a) (ofB (Wd.wid a) x) (ofB (Wd.wid a) x (Wd.wid a - 1)) (min (Wd.wid a) (y % 2 ^ Wd.wid a))) (Wd.wid a)
  have s0 := Wd.sgn_lo a x
  have s1 := Wd.sgn_lt a x
  have hp := Wd.pw_hib a
  have hw := Wd.wid_hi a
  have hdiv : Wd.sgn a x / ((2 ^ min (Wd.wid a) (y % 2 ^ Wd.wid a) : Nat) : Int) = Wd.sgn a x / Wd.pw (min (y % 2 ^ Wd.wid a) 64) := by
    rw [Wd.pw_nat]
    by_cases h : y % 2 ^ Wd.wid a ≤ Wd.wid a
    · rw [Nat.min_eq_right h, Nat.min_eq_left (by omega)]
    · rw [Nat.min_eq_left (by omega)]
      have far : ∀ d : Nat, 2 ^ Wd.wid a ≤ d → Wd.sgn a x / (d : Int) = if Wd.sgn a x < 0 then -1 else 0 := by
        intro d hd
        rw [Wd.pw_nat] at hp
        split
        · rw [show Wd.sgn a x = (Wd.sgn a x + d) + (-1) * (d : Int) from by omega, Int.add_mul_ediv_right _ _ (by omega), Int.ediv_eq_zero_of_lt (by omega) (by omega)]; rfl
        · exact Int.ediv_eq_zero_of_lt (by omega) (by omega)
      rw [far _ (Nat.le_refl _), far _ (Nat.pow_le_pow_right (by decide) (by omega))]
  rw [← hdiv]
  clear hdiv
  generalize Wd.sgn a x / ((2 ^ min (Wd.wid a) (y % 2 ^ Wd.wid a) : Nat) : Int) = t at *
  generalize val (movD (Wd.wid a) (ofB (Wd.wid a) x) (ofB (Wd.wid a) x (Wd.wid a - 1)) (min (Wd.wid a) (y % 2 ^ Wd.wid a))) (Wd.wid a) = v at *
  unfold Wd.cut
  rw [Wd.pw_nat]
  by_cases hb : ofB (Wd.wid a) x (Wd.wid a - 1) = true
  · rw [if_pos hb] at hv
    rw [show t = (v : Int) + ((2 ^ Wd.wid a : Nat) : Int) * (-1) from by omega, Int.add_mul_emod_self_left, Int.emod_eq_of_lt (by omega) (by omega)]
  · rw [if_neg hb] at hv
    rw [show t = (v : Int) from by omega, Int.emod_eq_of_lt (by omega) (by omega)]
theorem j_eq (b : Bool) (h : ((List.range 64).all fun i => ofB (Wd.wid a) x i == ofB (Wd.wid a) y i) = b) : ((val (upd off 0 b) 64 : Nat) : Int) = Wd.app 19 a x y := by
  rw [val_truth, Wd.app19, cX, cX, ← vX64, ← vX64]
  have key : b = true ↔ val (ofB (Wd.wid a) x) 64 = val (ofB (Wd.wid a) y) 64 := by
    rw [← h]
    simp only [List.all_eq_true, List.mem_range, beq_iff_eq]
    exact ⟨fun q => val_congr 64 q, fun q => val_inj 64 q⟩
  unfold Wd.eqv
  by_cases e : val (ofB (Wd.wid a) x) 64 = val (ofB (Wd.wid a) y) 64
  · rw [if_pos (key.2 e), if_pos (by omega)]; rfl
  · rw [if_neg (fun q => e (key.1 q)), if_neg (by omega)]; rfl
theorem j_less (b : Bool) (h : decide (val (ofB (Wd.wid a) x) (Wd.wid a) < val (ofB (Wd.wid a) y) (Wd.wid a)) = b) : ((val (upd off 0 b) 64 : Nat) : Int) = Wd.app 20 a x y := by
  rw [val_truth, Wd.app20, cX, cX, ← h, vX, vX]
  unfold Wd.ltv
  by_cases e : x % 2 ^ Wd.wid a < y % 2 ^ Wd.wid a
  · rw [if_pos (by simpa using e), if_pos (by omega)]; rfl
  · rw [if_neg (by simpa using e), if_neg (by omega)]; rfl
theorem j_below1 (h : (ofB (Wd.wid a) x (Wd.wid a - 1) == ofB (Wd.wid a) y (Wd.wid a - 1)) = false) : ((val (upd off 0 (ofB (Wd.wid a) x (Wd.wid a - 1))) 64 : Nat) : Int) = Wd.app 21 a x y := by
  rw [val_truth, Wd.app21]
  have h' : ofB (Wd.wid a) x (Wd.wid a - 1) ≠ ofB (Wd.wid a) y (Wd.wid a - 1) := by simpa using h
  rw [topX, topX] at h'
  rw [topX]
  have hp := Wd.pw_hib a
  have x0 := Wd.cut_lo a x
  have x1 := Wd.cut_lt a x
  have y0 := Wd.cut_lo a y
  have y1 := Wd.cut_lt a y
  unfold Wd.ltv
  by_cases e : Wd.hib a ≤ Wd.cut a x
  · have e2 : ¬ Wd.hib a ≤ Wd.cut a y := fun q => h' (by simp [e, q])
    have ex : Wd.sgn a x = Wd.cut a x - Wd.pw (Wd.wid a) := by unfold Wd.sgn; rw [if_neg (by omega)]
    have ey : Wd.sgn a y = Wd.cut a y := by unfold Wd.sgn; rw [if_pos (by omega)]
    rw [ex, ey, if_pos (by simpa using e), if_pos (by omega)]; rfl
  · have e2 : Wd.hib a ≤ Wd.cut a y := by
      apply Classical.byContradiction
      intro q; exact h' (by simp [e, q])
    have ex : Wd.sgn a x = Wd.cut a x := by unfold Wd.sgn; rw [if_pos (by omega)]
    have ey : Wd.sgn a y = Wd.cut a y - Wd.pw (Wd.wid a) := by unfold Wd.sgn; rw [if_neg (by omega)]
    rw [ex, ey, if_neg (by simpa using e), if_neg (by omega)]; rfl
theorem j_below2 (b : Bool) (hb : decide (val (ofB (Wd.wid a) x) (Wd.wid a) < val (ofB (Wd.wid a) y) (Wd.wid a)) = b) (h : (ofB (Wd.wid a) x (Wd.wid a - 1) == ofB (Wd.wid a) y (Wd.wid a - 1)) = true) : ((val (upd off 0 b) 64 : Nat) : Int) = Wd.app 21 a x y := by
  rw [j_less a x y b hb, Wd.app20, Wd.app21]
  have h' : ofB (Wd.wid a) x (Wd.wid a - 1) = ofB (Wd.wid a) y (Wd.wid a - 1) := by simpa using h
  rw [topX, topX] at h'
  unfold Wd.ltv Wd.sgn
  by_cases e : Wd.hib a ≤ Wd.cut a x
  · have e2 : Wd.hib a ≤ Wd.cut a y := by rw [show decide (Wd.hib a ≤ Wd.cut a x) = true from by simpa using e] at h'; exact of_decide_eq_true h'.symm
    rw [if_neg (show ¬ Wd.cut a x < Wd.hib a by omega), if_neg (show ¬ Wd.cut a y < Wd.hib a by omega)]
    split <;> split <;> omega
  · have e2 : ¬ Wd.hib a ≤ Wd.cut a y := by rw [show decide (Wd.hib a ≤ Wd.cut a x) = false from by simpa using e] at h'; exact of_decide_eq_false h'.symm
    rw [if_pos (show Wd.cut a x < Wd.hib a by omega), if_pos (show Wd.cut a y < Wd.hib a by omega)]
end Wb
end Go.Proofs.Ytbjckcjfambpoaa
namespace Go.Proofs.Ytbjckcjfambpoaa
set_option linter.unusedSimpArgs false
set_option linter.unusedVariables false
set_option maxRecDepth 100000
open Go.RowKit

theorem rapply_any (op a : Int) (x y : Nat) (hx : x < 18446744073709551616) (hy : y < 18446744073709551616) (w : World) :
    Calls Try.prog 32 #[.int .i64 op, .int .i64 a, .int .u64 x, .int .u64 y] w fun e w' => e = .returned (.int .u64 (Wd.app op a x y)) ∧ Below w.heap.size w w' := by
  have h1 := Wd.wid_lo a
  have h2 := Wd.wid_hi a
  by_cases h5 : op = 5
  · subst h5
    rw [← Wb.j_not a x y]
    exact rap_not a x y _ _ _ _ _ (Lib.hid rfl) (Lib.hid rfl) (Lib.hid rfl) (Lib.hid rfl) (Lib.hid rfl) hx hy h1 h2 w
  by_cases h8 : op = 8
  · subst h8
    rw [← Wb.j_add a x y]
    exact rap_add a x y _ _ _ _ _ (Lib.hid rfl) (Lib.hid rfl) (Lib.hid rfl) (Lib.hid rfl) (Lib.hid rfl) hx hy h1 h2 w
  by_cases h9 : op = 9
  · subst h9
    rw [← Wb.j_sub a x y]
    exact rap_sub a x y _ _ _ _ _ (Lib.hid rfl) (Lib.hid rfl) (Lib.hid rfl) (Lib.hid rfl) (Lib.hid rfl) hx hy h1 h2 w
  by_cases h10 : op = 10
  · subst h10
    rw [← Wb.j_mul a x y]
    exact rap_mul a x y _ _ _ _ _ (Lib.hid rfl) (Lib.hid rfl) (Lib.hid rfl) (Lib.hid rfl) (Lib.hid rfl) hx hy h1 h2 w
  by_cases h11 : op = 11
  · subst h11
    rw [← Wb.j_div a x y]
    exact rap_div a x y _ _ _ _ _ (Lib.hid rfl) (Lib.hid rfl) (Lib.hid rfl) (Lib.hid rfl) (Lib.hid rfl) hx hy h1 h2 w
  by_cases h12 : op = 12
  · subst h12
    rw [← Wb.j_rem a x y]
    exact rap_rem a x y _ _ _ _ _ (Lib.hid rfl) (Lib.hid rfl) (Lib.hid rfl) (Lib.hid rfl) (Lib.hid rfl) hx hy h1 h2 w
  by_cases h13 : op = 13
  · subst h13
    rw [← Wb.j_and a x y]
    exact rap_and a x y _ _ _ _ _ (Lib.hid rfl) (Lib.hid rfl) (Lib.hid rfl) (Lib.hid rfl) (Lib.hid rfl) hx hy h1 h2 w
  by_cases h14 : op = 14
  · subst h14
    rw [← Wb.j_or a x y]
    exact rap_or a x y _ _ _ _ _ (Lib.hid rfl) (Lib.hid rfl) (Lib.hid rfl) (Lib.hid rfl) (Lib.hid rfl) hx hy h1 h2 w
  by_cases h15 : op = 15
  · subst h15
    rw [← Wb.j_xor a x y]
    exact rap_xor a x y _ _ _ _ _ (Lib.hid rfl) (Lib.hid rfl) (Lib.hid rfl) (Lib.hid rfl) (Lib.hid rfl) hx hy h1 h2 w
  by_cases h16 : op = 16
  · subst h16
    rw [← Wb.j_shl a x y]
    exact rap_shl a x y _ _ _ _ _ (Lib.hid rfl) (Lib.hid rfl) (Lib.hid rfl) (Lib.hid rfl) (Lib.hid rfl) hx hy h1 h2 w
  by_cases h17 : op = 17
  · subst h17
    rw [← Wb.j_shr a x y]
    exact rap_shr a x y _ _ _ _ _ (Lib.hid rfl) (Lib.hid rfl) (Lib.hid rfl) (Lib.hid rfl) (Lib.hid rfl) hx hy h1 h2 w
  by_cases h18 : op = 18
  · subst h18
    rw [← Wb.j_sar a x y]
    exact rap_sar a x y _ _ _ _ _ (Lib.hid rfl) (Lib.hid rfl) (Lib.hid rfl) (Lib.hid rfl) (Lib.hid rfl) hx hy h1 h2 w
  by_cases h19 : op = 19
  · subst h19
    rw [← Wb.j_eq a x y _ rfl]
    exact rap_eq a x y _ _ _ _ _ (Lib.hid rfl) (Lib.hid rfl) (Lib.hid rfl) (Lib.hid rfl) (Lib.hid rfl) hx hy h1 h2 _ (Lib.hid rfl) w
  by_cases h20 : op = 20
  · subst h20
    rw [← Wb.j_less a x y _ rfl]
    exact rap_less a x y _ _ _ _ _ (Lib.hid rfl) (Lib.hid rfl) (Lib.hid rfl) (Lib.hid rfl) (Lib.hid rfl) hx hy h1 h2 _ (Lib.hid rfl) w
  by_cases h21 : op = 21
  · subst h21
    by_cases hne : (Wb.ofB (Wd.wid a) x (Wd.wid a - 1) == Wb.ofB (Wd.wid a) y (Wd.wid a - 1)) = true
    · rw [← Wb.j_below2 a x y _ rfl hne]
      exact rap_below2 a x y _ _ _ _ _ (Lib.hid rfl) (Lib.hid rfl) (Lib.hid rfl) (Lib.hid rfl) (Lib.hid rfl) hx hy h1 h2 _ (Lib.hid rfl) hne w
    · have hne' : (Wb.ofB (Wd.wid a) x (Wd.wid a - 1) == Wb.ofB (Wd.wid a) y (Wd.wid a - 1)) = false := by simpa using hne
      rw [← Wb.j_below1 a x y hne']
      exact rap_below1 a x y _ _ _ _ _ (Lib.hid rfl) (Lib.hid rfl) (Lib.hid rfl) (Lib.hid rfl) (Lib.hid rfl) hx hy h1 h2 hne' w
  have e : Wd.app op a x y = 0 := by simp [Wd.app, h5, h8, h9, h10, h11, h12, h13, h14, h15, h16, h17, h18, h19, h20, h21]
  rw [e]
  exact rap_none op a x y _ _ _ _ _ (Lib.hid rfl) (Lib.hid rfl) (Lib.hid rfl) (Lib.hid rfl) (Lib.hid rfl) hx hy h1 h2 (beq_eq_false_iff_ne.2 h5) (beq_eq_false_iff_ne.2 h8) (beq_eq_false_iff_ne.2 h9) (beq_eq_false_iff_ne.2 h10) (beq_eq_false_iff_ne.2 h11) (beq_eq_false_iff_ne.2 h12) (beq_eq_false_iff_ne.2 h13) (beq_eq_false_iff_ne.2 h14) (beq_eq_false_iff_ne.2 h15) (beq_eq_false_iff_ne.2 h16) (beq_eq_false_iff_ne.2 h17) (beq_eq_false_iff_ne.2 h18) (beq_eq_false_iff_ne.2 h19) (beq_eq_false_iff_ne.2 h20) (beq_eq_false_iff_ne.2 h21) w

theorem rmask_all (a : Int) (w : World) :
    Calls Try.prog 31 #[.int .i64 a] w fun e w' => e = .returned (.int .u64 (Wd.msk a)) ∧ Below w.heap.size w w' := by
  rw [← Wb.j_mask a]
  exact rmask_any a _ (Lib.hid rfl) (Wd.wid_hi a) w

end Go.Proofs.Ytbjckcjfambpoaa
