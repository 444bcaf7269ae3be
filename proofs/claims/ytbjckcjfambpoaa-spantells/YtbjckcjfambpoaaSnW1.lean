/-
  Layer 11: contracts of the small functions.
-/
import Derived.Test.YtbjckcjfambpoaaSnO
import Derived.Test.YtbjckcjfambpoaaWdW1
import Derived.Test.YtbjckcjfambpoaaHeT
import Derived.Below
import Derived.Lib.SmallJoins
import Derived.Maps.OwnSet
import Derived.WalkSpells
import Derived.WalkLawsBesides
import Derived.Lib.Hide
import Derived.Deep.QuietTactic
import Derived.BigQuiet
namespace Go.Proofs.Ytbjckcjfambpoaa
set_option linter.unusedSimpArgs false
set_option linter.unusedVariables false
open Go.RowKit Go.Maps
set_option maxRecDepth 100000

/-- A block's content. -/
abbrev Sn.Bk (w : World) (g : Nat) (t : TypeId) (cs : Array Value) : Prop := w.heap[g]? = some (.cells cs t (0, 0))
theorem Sn.bk_lt {w : World} {g : Nat} {t : TypeId} {cs : Array Value} (h : Sn.Bk w g t cs) : g < w.heap.size := (Array.getElem?_eq_some_iff.1 h).1
theorem Sn.bk_c {w : World} {g : Nat} {t : TypeId} {cs : Array Value} (h : Sn.Bk w g t cs) (i : Nat) : w.cell? ⟨g, i, none⟩ = cs[i]? := by simp [World.cell?, h]
theorem Sn.bk_fr {w : World} {g : Nat} {t : TypeId} {cs : Array Value} (h : Sn.Bk w g t cs) (i : Nat) : w.frozen? ⟨g, i, none⟩ = false := Joins.unfrozen_of_block h i
theorem Sn.bk_new (w : World) (cs : Array Value) (t : TypeId) : Sn.Bk (w.alloc (.cells cs t)) w.heap.size t cs := heap_alloc_new w _
theorem Sn.bk_at {W : World} {n : Nat} {cs : Array Value} {t : TypeId} (h : W.heap.size = n) : Sn.Bk (W.alloc (.cells cs t)) n t cs := h ▸ Sn.bk_new W _ _
theorem Sn.bk_old {W : World} {g : Nat} {t : TypeId} {cs : Array Value} (h : Sn.Bk W g t cs) (o : Obj) : Sn.Bk (W.alloc o) g t cs := ((Below.refl W.heap.size W).alloc (Nat.le_refl _) o).block _ (Sn.bk_lt h) |>.trans h
theorem Sn.bk_below {B : Nat} {W W' : World} {g : Nat} {t : TypeId} {cs : Array Value} (h : Sn.Bk W g t cs) (hb : Below B W W') (hg : g < B) : Sn.Bk W' g t cs := (hb.block g hg).trans h
theorem Sn.below_next {B : Nat} {w0 w w' : World} (h : Below B w0 w) (hb : Below w.heap.size w w') (hB : B ≤ w.heap.size) : Below B w0 w' := h.trans (hb.mono hB)
theorem Sn.below_set {B : Nat} {a W : World} (h : Below B a W) {g : Nat} (hg : B ≤ g) (c : Array Value) : Below B a (W.setRow g c) :=
  ⟨h.os, h.tape, h.output, by simpa using h.size, fun k hk => (setRow_other _ _ _ _ (by omega)).trans (h.block k hk)⟩
theorem Sn.box (w : World) (o : Obj) : Below w.heap.size w (w.alloc o) := (Below.refl _ _).alloc (Nat.le_refl _) _
theorem Sn.below_drewN {B : Nat} {a W : World} (h : Below B a W) (n : Nat) : Below B a (W.drewN n) := ⟨h.os, h.tape, h.output, h.size, h.block⟩
theorem Sn.size_sp (cs : Array Value) (h : cs.size = 2) : (Try.prog.info? 24).map (·.size) = some cs.size := by rw [h]; kernel_rfl
theorem Sn.size_rl (cs : Array Value) (h : cs.size = 4) : (Try.prog.info? 43).map (·.size) = some cs.size := by rw [h]; kernel_rfl
theorem Sn.ret_sp {fn : Func} {p : Tmp} {R : Ending → World → Prop} {a : Act} {w : World} (g : Nat) (cs : Array Value) (hr : Sn.Bk w g 24 cs) (hc : cs.size = 2) (hf : fn.results = #[.cell p 24]) (hd : a.defers = []) (hp : a.tmps.getD p undef = .pointer (some ⟨g, 0, none⟩)) (hR : R (.returned (.agg cs)) w) :
    bodyPost Try.prog fn R .ret a w :=
  bodyPost_ret (results_cell_row hf a.tmps w g 24 cs (0, 0) _ hp hr Try.underlying24 rfl (Sn.size_sp cs hc)) hd hR
theorem Sn.ret_rl {fn : Func} {p : Tmp} {R : Ending → World → Prop} {a : Act} {w : World} (g : Nat) (cs : Array Value) (hr : Sn.Bk w g 43 cs) (hc : cs.size = 4) (hf : fn.results = #[.cell p 43]) (hd : a.defers = []) (hp : a.tmps.getD p undef = .pointer (some ⟨g, 0, none⟩)) (hR : R (.returned (.agg cs)) w) :
    bodyPost Try.prog fn R .ret a w :=
  bodyPost_ret (results_cell_row hf a.tmps w g 43 cs (0, 0) _ hp hr Try.underlying43 rfl (Sn.size_rl cs hc)) hd hR
theorem Sn.load_sp {ops : Array Oper} {rest : List Oper} {o : Oper} {a : Act} {w : World} {Q : Exit → Act → World → Prop} (x : Operand) (g : Nat) (cs : Array Value) (hr : Sn.Bk w g 24 cs) (hc : cs.size = 2) (hgd : o.guard = none) (ho : o.op = .load 24 x)
    (hx : a.eval x = .pointer (some ⟨g, 0, none⟩)) (h : wpList Try.prog ops Q rest (a.put o.dst (.agg cs)) w) : wpList Try.prog ops Q (o :: rest) a w :=
  wpList_load_row hgd 24 x ho g hx 24 cs (0, 0) _ hr Try.underlying24 rfl (Sn.size_sp cs hc) h
theorem Sn.store_sp {ops : Array Oper} {rest : List Oper} {o : Oper} {a : Act} {w : World} {Q : Exit → Act → World → Prop} (x y : Operand) (g : Nat) (old cs : Array Value) (hr : Sn.Bk w g 24 old) (hz : old.size = 2) (hgd : o.guard = none) (ho : o.op = .store 24 x y)
    (hx : a.eval x = .pointer (some ⟨g, 0, none⟩)) (hy : a.eval y = .agg cs) (hc : cs.size = 2) (h1 : cs.all (·.oneCell') = true)
    (h : wpList Try.prog ops Q rest (a.put o.dst undef) (w.setRow g cs)) : wpList Try.prog ops Q (o :: rest) a w :=
  wpList_store_row hgd 24 x y ho g cs hx hy 24 old hr (Sn.size_sp cs hc) (by rw [hz, hc]) h1 h
theorem Sn.store_rl {ops : Array Oper} {rest : List Oper} {o : Oper} {a : Act} {w : World} {Q : Exit → Act → World → Prop} (x y : Operand) (g : Nat) (old cs : Array Value) (hr : Sn.Bk w g 43 old) (hz : old.size = 4) (hgd : o.guard = none) (ho : o.op = .store 43 x y)
    (hx : a.eval x = .pointer (some ⟨g, 0, none⟩)) (hy : a.eval y = .agg cs) (hc : cs.size = 4) (h1 : cs.all (·.oneCell') = true)
    (h : wpList Try.prog ops Q rest (a.put o.dst undef) (w.setRow g cs)) : wpList Try.prog ops Q (o :: rest) a w :=
  wpList_store_row hgd 43 x y ho g cs hx hy 43 old hr (Sn.size_rl cs hc) (by rw [hz, hc]) h1 h
theorem Sn.ret_q {a b : Sn.S} (h : a = b) : Ending.returned (Sn.v a) = .returned (Sn.v b) := by rw [h]
theorem Sn.ret_b {a b : Bool} (h : a = b) : Ending.returned (.bool a) = .returned (.bool b) := by rw [h]

set_option maxHeartbeats 1600000 in
theorem point_any (x : Int) (w : World) :
    Calls Try.prog 23 #[.int .u64 x] w fun e w' => e = .returned (Sn.v (x, x)) ∧ Below w.heap.size w w' := by
  go_enter Try.func23, Try.ntmps23
  go_wp2
  refine Sn.ret_sp w.heap.size #[.int .u64 x, .int .u64 x] (Sn.bk_new _ _ _) rfl rfl rfl rfl ?_
  exact ⟨rfl, Sn.box _ _⟩

set_option maxHeartbeats 1600000 in
theorem either_any (w : World) :
    Calls Try.prog 65 #[] w fun e w' => e = .returned (Sn.v (0, 1)) ∧ Below w.heap.size w w' := by
  go_enter Try.func65, Try.ntmps65
  go_wp2
  refine Sn.ret_sp w.heap.size #[.int .u64 0, .int .u64 1] (Sn.bk_new _ _ _) rfl rfl rfl rfl ?_
  exact ⟨rfl, Sn.box _ _⟩

set_option maxHeartbeats 1600000 in
theorem whole_any (a : Int) (w : World) :
    Calls Try.prog 37 #[.int .i64 a] w fun e w' => e = .returned (Sn.v (Sn.whole a)) ∧ Below w.heap.size w w' := by
  go_enter Try.func37, Try.ntmps37
  go_wp2_with (go_at_call 21; refine (mask_any _ _).mono ?_; rintro e w' ⟨rfl, rfl⟩)
  refine Sn.ret_sp w.heap.size #[.int .u64 0, .int .u64 (Wd.msk a)] (Sn.bk_new _ _ _) rfl rfl rfl rfl ?_
  exact ⟨rfl, Sn.box _ _⟩

set_option maxHeartbeats 1600000 in
theorem right_any (a : Int) (s : Sn.S) (w : World) :
    Calls Try.prog 11 #[.int .i64 a, Sn.v s] w fun e w' => e = .returned (Sn.v (Sn.rt a s)) ∧ Below w.heap.size w w' := by
  obtain ⟨p, q⟩ := s
  show Calls Try.prog 11 #[.int .i64 a, .agg #[.int .u64 p, .int .u64 q]] w _
  by_cases h : q < p
  · have hd : decide (p > q) = true := by simpa using h
    rw [show Sn.rt a (p, q) = Sn.whole a by unfold Sn.rt; exact if_pos (.inl h)]
    clear h
    go_enter Try.func11, Try.ntmps11
    go_wp2_with fail
    go_quiet ((go_at_call 21; exact Calls.quiet_of ((mask_any _ _).mono fun e w9 h9 => ⟨h9.1, 0, by rw [← h9.2]; rfl⟩)))
    have hB : Below w.heap.size w (((w.alloc (.cells #[.int .u64 p, .int .u64 q] 24)).alloc (.cells #[.int .u64 0, .int .u64 0] 24)).drewN nq) := Sn.below_drewN (((Below.refl _ _).alloc (Nat.le_refl _) _).alloc (by simp) _) _
    have hr0 : Sn.Bk (((w.alloc (.cells #[.int .u64 p, .int .u64 q] 24)).alloc (.cells #[.int .u64 0, .int .u64 0] 24)).drewN nq) (w.heap.size) 24 #[.int .u64 p, .int .u64 q] := Sn.bk_old (Sn.bk_new _ _ _) _
    have hr1 : Sn.Bk (((w.alloc (.cells #[.int .u64 p, .int .u64 q] 24)).alloc (.cells #[.int .u64 0, .int .u64 0] 24)).drewN nq) (w.heap.size + 1) 24 #[.int .u64 0, .int .u64 0] := Sn.bk_at (by simp)
    generalize (((w.alloc (.cells #[.int .u64 p, .int .u64 q] 24)).alloc (.cells #[.int .u64 0, .int .u64 0] 24)).drewN nq) = v at *
    have HB := Lib.hid hB
    have HR0 := Lib.hid hr0
    have HR1 := Lib.hid hr1
    clear hB hr0 hr1
    go_wp2_with fail
    refine (whole_any a v).mono ?_
    rintro e v2 ⟨rfl, hb⟩
    have hr1 := Sn.bk_below HR1.out hb (Sn.bk_lt HR1.out)
    have hB := Sn.below_next HB.out hb HB.out.size
    clear HB HR1 hb
    have HB := Lib.hid hB
    have HR1 := Lib.hid hr1
    clear hB hr1
    have H1C := Lib.hid (show (#[.int .u64 0, .int .u64 (Wd.msk a)] : Array Value).all (·.oneCell') = true from by simp [Value.oneCell'])
    go_wp2_with (with_reducible refine Sn.store_sp (.tmp 4) (.tmp 18) (w.heap.size + 1) #[.int .u64 0, .int .u64 0] #[.int .u64 0, .int .u64 (Wd.msk a)] HR1.out rfl rfl rfl rfl rfl rfl H1C.out ?_)
    refine Sn.ret_sp (w.heap.size + 1) _ (setRow_heap _ _ _ _ _ _ HR1.out) rfl rfl rfl rfl ?_
    exact ⟨rfl, Sn.below_set HB.out (by omega) _⟩
  · have hd : decide (p > q) = false := by simpa using h
    by_cases h2 : Wd.msk a < q
    · have hd2 : decide (q > Wd.msk a) = true := by simpa using h2
      rw [show Sn.rt a (p, q) = Sn.whole a by unfold Sn.rt; exact if_pos (.inr h2)]
      clear h h2
      go_enter Try.func11, Try.ntmps11
      go_wp2_with fail
      go_quiet ((go_at_call 21; exact Calls.quiet_of ((mask_any _ _).mono fun e w9 h9 => ⟨h9.1, 0, by rw [← h9.2]; rfl⟩)))
      have hB : Below w.heap.size w (((w.alloc (.cells #[.int .u64 p, .int .u64 q] 24)).alloc (.cells #[.int .u64 0, .int .u64 0] 24)).drewN nq) := Sn.below_drewN (((Below.refl _ _).alloc (Nat.le_refl _) _).alloc (by simp) _) _
      have hr0 : Sn.Bk (((w.alloc (.cells #[.int .u64 p, .int .u64 q] 24)).alloc (.cells #[.int .u64 0, .int .u64 0] 24)).drewN nq) (w.heap.size) 24 #[.int .u64 p, .int .u64 q] := Sn.bk_old (Sn.bk_new _ _ _) _
      have hr1 : Sn.Bk (((w.alloc (.cells #[.int .u64 p, .int .u64 q] 24)).alloc (.cells #[.int .u64 0, .int .u64 0] 24)).drewN nq) (w.heap.size + 1) 24 #[.int .u64 0, .int .u64 0] := Sn.bk_at (by simp)
      generalize (((w.alloc (.cells #[.int .u64 p, .int .u64 q] 24)).alloc (.cells #[.int .u64 0, .int .u64 0] 24)).drewN nq) = v at *
      have HB := Lib.hid hB
      have HR0 := Lib.hid hr0
      have HR1 := Lib.hid hr1
      clear hB hr0 hr1
      go_wp2_with fail
      refine (whole_any a v).mono ?_
      rintro e v2 ⟨rfl, hb⟩
      have hr1 := Sn.bk_below HR1.out hb (Sn.bk_lt HR1.out)
      have hB := Sn.below_next HB.out hb HB.out.size
      clear HB HR1 hb
      have HB := Lib.hid hB
      have HR1 := Lib.hid hr1
      clear hB hr1
      have H1C := Lib.hid (show (#[.int .u64 0, .int .u64 (Wd.msk a)] : Array Value).all (·.oneCell') = true from by simp [Value.oneCell'])
      go_wp2_with (with_reducible refine Sn.store_sp (.tmp 4) (.tmp 18) (w.heap.size + 1) #[.int .u64 0, .int .u64 0] #[.int .u64 0, .int .u64 (Wd.msk a)] HR1.out rfl rfl rfl rfl rfl rfl H1C.out ?_)
      refine Sn.ret_sp (w.heap.size + 1) _ (setRow_heap _ _ _ _ _ _ HR1.out) rfl rfl rfl rfl ?_
      exact ⟨rfl, Sn.below_set HB.out (by omega) _⟩
    · have hd2 : decide (q > Wd.msk a) = false := by simpa using h2
      rw [show Sn.rt a (p, q) = (p, q) by unfold Sn.rt; exact if_neg (fun hc => hc.elim h h2)]
      clear h h2
      go_enter Try.func11, Try.ntmps11
      go_wp2_with fail
      go_quiet ((go_at_call 21; exact Calls.quiet_of ((mask_any _ _).mono fun e w9 h9 => ⟨h9.1, 0, by rw [← h9.2]; rfl⟩)))
      have hB : Below w.heap.size w (((w.alloc (.cells #[.int .u64 p, .int .u64 q] 24)).alloc (.cells #[.int .u64 0, .int .u64 0] 24)).drewN nq) := Sn.below_drewN (((Below.refl _ _).alloc (Nat.le_refl _) _).alloc (by simp) _) _
      have hr0 : Sn.Bk (((w.alloc (.cells #[.int .u64 p, .int .u64 q] 24)).alloc (.cells #[.int .u64 0, .int .u64 0] 24)).drewN nq) (w.heap.size) 24 #[.int .u64 p, .int .u64 q] := Sn.bk_old (Sn.bk_new _ _ _) _
      have hr1 : Sn.Bk (((w.alloc (.cells #[.int .u64 p, .int .u64 q] 24)).alloc (.cells #[.int .u64 0, .int .u64 0] 24)).drewN nq) (w.heap.size + 1) 24 #[.int .u64 0, .int .u64 0] := Sn.bk_at (by simp)
      generalize (((w.alloc (.cells #[.int .u64 p, .int .u64 q] 24)).alloc (.cells #[.int .u64 0, .int .u64 0] 24)).drewN nq) = v at *
      have HB := Lib.hid hB
      have HR0 := Lib.hid hr0
      have HR1 := Lib.hid hr1
      clear hB hr0 hr1
      have H1C := Lib.hid (show (#[.int .u64 p, .int .u64 q] : Array Value).all (·.oneCell') = true from by simp [Value.oneCell'])
      go_wp2_with (first | (with_reducible refine Sn.load_sp (.tmp 3) (w.heap.size) #[.int .u64 p, .int .u64 q] HR0.out rfl rfl rfl rfl ?_) | (with_reducible refine Sn.store_sp (.tmp 4) (.tmp 19) (w.heap.size + 1) #[.int .u64 0, .int .u64 0] #[.int .u64 p, .int .u64 q] HR1.out rfl rfl rfl rfl rfl rfl H1C.out ?_))
      refine Sn.ret_sp (w.heap.size + 1) _ (setRow_heap _ _ _ _ _ _ HR1.out) rfl rfl rfl rfl ?_
      exact ⟨rfl, Sn.below_set HB.out (by omega) _⟩


end Go.Proofs.Ytbjckcjfambpoaa
