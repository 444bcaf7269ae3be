/-
  The runner: its block, what may change beside it; contracts of put, address, and the actions that write one register.
  Contracts of the runner's actions: halt, fail, set, copy, length, divide by 0, jump, branch.
  A region that draws its order: a head whose operations leave the world alone but for draws (calls that draw among them), and a tail in one forced order that may write: one walk in the text's order serves every order.
  Contracts of the runner's actions: apply, divide, read.
  A region that draws its order and whose last operations stand in one forced order: behind the head, which is walked with a condition on the world held (as in a held region), the tail may break that condition.
  The contract of the runner's call: append onto the open places through a field.
  Contracts of load, save and what they go through.
  Layer 5 as plain functions: states, what an instruction does, steps, runs.
  through, with load's and with save's closure; load and save.
-/
import Derived.Test.YtfhnigfghfmolaaDoorGB
import Derived.Test.YtfhnigfghfmolaaDoorGC
import Derived.StillTailTactics
import Derived.BigQuiet
import Derived.Deep.RegionHeld3
import Derived.Laws.Bits64
set_option linter.unusedSimpArgs false
set_option linter.unusedVariables false
namespace Go.Proofs.YtfhnigfghfmolaaDoor
set_option maxRecDepth 100000
open Go.RowKit

/-- But for block g, and the blocks m and o, the world w' is as w was. -/
structure Fr (g : Nat) (m o : Option Nat) (w w' : World) : Prop where
  os : w'.os = w.os
  tape : w'.tape = w.tape
  output : w'.output = w.output
  size : w.heap.size ≤ w'.heap.size
  block : ∀ k, k < w.heap.size → k ≠ g → some k ≠ m → some k ≠ o → w'.heap[k]? = w.heap[k]?
theorem Fr.refl (g : Nat) (m o : Option Nat) (w : World) : Fr g m o w w := ⟨rfl, rfl, rfl, Nat.le_refl _, fun _ _ _ _ _ => rfl⟩
theorem Fr.trans {g : Nat} {m o : Option Nat} {a b c : World} (h : Fr g m o a b) (k : Fr g m o b c) : Fr g m o a c :=
  ⟨k.os.trans h.os, k.tape.trans h.tape, k.output.trans h.output, Nat.le_trans h.size k.size, fun i hi h1 h2 h3 => (k.block i (Nat.lt_of_lt_of_le hi h.size) h1 h2 h3).trans (h.block i hi h1 h2 h3)⟩
theorem Fr.of_below {g : Nat} {m o : Option Nat} {w w' : World} (h : Below w.heap.size w w') : Fr g m o w w' := ⟨h.os, h.tape, h.output, h.size, fun k hk _ _ _ => h.block k hk⟩
theorem Fr.wide {g : Nat} {m o : Option Nat} {w w' : World} (h : Fr g none none w w') : Fr g m o w w' := ⟨h.os, h.tape, h.output, h.size, fun k hk h1 _ _ => h.block k hk h1 (by simp) (by simp)⟩
theorem Fr.set {g : Nat} {m o : Option Nat} (w : World) (i : Nat) (v : Value) : Fr g m o w (w.setCell ⟨g, i, none⟩ v) := ⟨rfl, rfl, rfl, by simp, fun k _ hn _ _ => Below.heap_setCell _ _ _ _ hn⟩
theorem Fr.drewN {g : Nat} {m o : Option Nat} {a w : World} (h : Fr g m o a w) (n : Nat) : Fr g m o a (w.drewN n) := ⟨h.os, h.tape, h.output, h.size, h.block⟩
theorem Fr.drew {g : Nat} {m o : Option Nat} {a w : World} (h : Fr g m o a w) : Fr g m o a w.drew := ⟨h.os, h.tape, h.output, h.size, h.block⟩
theorem Fr.box {g : Nat} {m o : Option Nat} (w : World) (x : Obj) : Fr g m o w (w.alloc x) := Fr.of_below (Below.box w x)

/-- The runner's block. -/
abbrev RnB (w : World) (g : Nat) (cs : Array Value) : Prop := w.heap[g]? = some (.cells cs 71 (0, 0))
theorem RnB.c {w : World} {g : Nat} {cs : Array Value} (h : RnB w g cs) (i : Nat) : w.cell? ⟨g, i, none⟩ = cs[i]? := cell_of_row _ _ _ _ _ _ h
theorem RnB.lt {w : World} {g : Nat} {cs : Array Value} (h : RnB w g cs) : g < w.heap.size := blk_lt (t := 71) h
theorem RnB.below {w w' : World} {g : Nat} {cs : Array Value} (h : RnB w g cs) (hb : Below w.heap.size w w') : RnB w' g cs := (hb.block g h.lt).trans h
theorem RnB.set {w : World} {g i : Nat} {cs : Array Value} (h : RnB w g cs) (v : Value) : RnB (w.setCell ⟨g, i, none⟩ v) g (cs.setIfInBounds i v) := Joins.block_setCell h _
theorem RnB.drew {w : World} {g : Nat} {cs : Array Value} (h : RnB w g cs) : RnB w.drew g cs := h
theorem RnB.drewN {w : World} {g : Nat} {cs : Array Value} (h : RnB w g cs) (n : Nat) : RnB (w.drewN n) g cs := h

theorem RnB.box {w : World} {g : Nat} {cs : Array Value} (h : RnB w g cs) (o : Obj) : RnB (w.alloc o) g cs := h.below (Below.box w o)
theorem RnB.cA {w : World} {g : Nat} {cs : Array Value} (h : RnB w g cs) {i : Nat} {v : Value} (hv : cs[i]? = some v) (o : Obj) : (w.alloc o).cell? ⟨g, i, none⟩ = some v := ((h.box o).c i).trans hv
theorem RnB.fA {w : World} {g : Nat} {cs : Array Value} (h : RnB w g cs) (i : Nat) (o : Obj) : (w.alloc o).frozen? ⟨g, i, none⟩ = false := Joins.unfrozen_of_block (h.box o) i
theorem RnB.ex {cs : Array Value} (hz : cs.size = 45) {i : Nat} (hi : i < 45) : ∃ v, cs[i]? = some v := ⟨_, Array.getElem?_eq_getElem (by omega)⟩

set_option maxRecDepth 20000 in
set_option maxHeartbeats 800000 in
theorem put_reg (g a : Nat) (op b c m x : Int) (cs : Array Value) (w : World) (hb : RnB w g cs) (hz : cs.size = 45) (ha : a < 8) :
    Calls Tryd.prog 89 #[.pointer (some ⟨g, 0, none⟩), .agg #[.int .i64 op, .int .i64 a, .int .i64 b, .int .i64 c, .int .u64 m], .int .u64 x] w fun e w' =>
      e = .returned (.int .i64 0) ∧ RnB w' g (cs.setIfInBounds (8 + a) (.int .u64 x)) ∧ Fr g none none w w' := by
  obtain ⟨v, hv⟩ := RnB.ex hz (i := 8 + a) (by omega)
  have c0 := hb.cA hv
  have cf := hb.fA (8 + a)
  have HB := Lib.hid hb
  have ha' : (a : Int) < 8 := by omega
  clear hb hv hz
  go_enter Tryd.func89, Tryd.ntmps89
  go_wp2
  go_region
  go_wp2
  go_ret
  exact ⟨rfl, (HB.out.box _).set _, ((Fr.box _ _).trans (Fr.set _ _ _)).drew⟩

set_option maxRecDepth 20000 in
set_option maxHeartbeats 800000 in
theorem address_any (g b : Nat) (op a c m x : Int) (cs : Array Value) (w : World) (hb : RnB w g cs) (hx : cs[8 + b]? = some (.int .u64 x)) (hl : b < 8) :
    Calls Tryd.prog 94 #[.pointer (some ⟨g, 0, none⟩), .agg #[.int .i64 op, .int .i64 a, .int .i64 b, .int .i64 c, .int .u64 m]] w fun e w' =>
      e = .returned (.int .u64 (IntKind.u64.wrap (x + m))) ∧ Below w.heap.size w w' := by
  have c0 := hb.cA hx
  have ha' : (b : Int) < 8 := by omega
  clear hb hx
  go_enter Tryd.func94, Tryd.ntmps94
  go_wp2
  go_quiet (fail)
  go_wp2
  go_ret
  exact ⟨rfl, below_drewN (Below.box _ _) _⟩
end Go.Proofs.YtfhnigfghfmolaaDoor
namespace Go.Proofs.YtfhnigfghfmolaaDoor
set_option maxRecDepth 100000
open Go.RowKit

set_option maxRecDepth 20000 in
theorem halt_any (g : Nat) (op a b c m : Int) (w : World) :
    Calls Tryd.prog 68 #[.pointer (some ⟨g, 0, none⟩), .agg #[.int .i64 op, .int .i64 a, .int .i64 b, .int .i64 c, .int .u64 m]] w fun e w' => e = .returned (.int .i64 1) ∧ Below w.heap.size w w' := by
  go_enter Tryd.func68, Tryd.ntmps68
  go_wp2
  go_ret
  exact ⟨rfl, Below.box _ _⟩

set_option maxRecDepth 20000 in
theorem fail_any (g : Nat) (op a b c m : Int) (w : World) :
    Calls Tryd.prog 81 #[.pointer (some ⟨g, 0, none⟩), .agg #[.int .i64 op, .int .i64 a, .int .i64 b, .int .i64 c, .int .u64 m]] w fun e w' => e = .returned (.int .i64 6) ∧ Below w.heap.size w w' := by
  go_enter Tryd.func81, Tryd.ntmps81
  go_wp2
  go_ret
  exact ⟨rfl, Below.box _ _⟩

set_option maxRecDepth 20000 in
set_option maxHeartbeats 800000 in
theorem set_any (g a : Nat) (op b c m : Int) (cs : Array Value) (w : World) (hb : RnB w g cs) (hz : cs.size = 45) (ha : a < 8) :
    Calls Tryd.prog 69 #[.pointer (some ⟨g, 0, none⟩), .agg #[.int .i64 op, .int .i64 a, .int .i64 b, .int .i64 c, .int .u64 m]] w fun e w' =>
      e = .returned (.int .i64 0) ∧ RnB w' g (cs.setIfInBounds (8 + a) (.int .u64 m)) ∧ Fr g none none w w' := by
  have HB := Lib.hid hb
  clear hb
  go_enter Tryd.func69, Tryd.ntmps69
  go_wp2_with fail
  refine (put_reg g a op b c m m cs _ (HB.out.box _) hz ha).mono ?_
  rintro e v ⟨rfl, h1, h2⟩
  go_wp2
  go_ret
  exact ⟨rfl, h1, (Fr.box _ _).trans h2⟩

set_option maxRecDepth 20000 in
set_option maxHeartbeats 800000 in
theorem copy_any (g a b : Nat) (op c m x : Int) (cs : Array Value) (w : World) (hb : RnB w g cs) (hz : cs.size = 45) (ha : a < 8) (hl : b < 8) (hx : cs[8 + b]? = some (.int .u64 x)) :
    Calls Tryd.prog 70 #[.pointer (some ⟨g, 0, none⟩), .agg #[.int .i64 op, .int .i64 a, .int .i64 b, .int .i64 c, .int .u64 m]] w fun e w' =>
      e = .returned (.int .i64 0) ∧ RnB w' g (cs.setIfInBounds (8 + a) (.int .u64 x)) ∧ Fr g none none w w' := by
  have c0 := hb.cA hx
  have hl' : (b : Int) < 8 := by omega
  have HB := Lib.hid hb
  clear hb hx
  go_enter Tryd.func70, Tryd.ntmps70
  go_wp2
  refine still_tail 10 (by kernel_rfl) (by kernel_rfl) ?_
  simp only [List.take_succ_cons, List.take_zero, List.drop_succ_cons, List.drop_zero]
  repeat still_step
  refine wpStill_nil ?_
  go_wp2_with fail
  refine (put_reg g a op b c m x cs _ (HB.out.box _).drew hz ha).mono ?_
  rintro e v ⟨rfl, h1, h2⟩
  go_wp2
  go_ret
  exact ⟨rfl, h1, (Fr.box _ _).drew.trans h2⟩

set_option maxRecDepth 20000 in
set_option maxHeartbeats 1600000 in
theorem divide_zero (g c : Nat) (op a b m : Int) (cs : Array Value) (w : World) (hb : RnB w g cs) (hk : c < 8) (hy : cs[8 + c]? = some (.int .u64 0)) :
    Calls Tryd.prog 72 #[.pointer (some ⟨g, 0, none⟩), .agg #[.int .i64 op, .int .i64 a, .int .i64 b, .int .i64 c, .int .u64 m]] w fun e w' => e = .returned (.int .i64 3) ∧ Below w.heap.size w w' := by
  have c1 := hb.cA hy
  have hk' : (c : Int) < 8 := by omega
  clear hb hy
  go_enter Tryd.func72, Tryd.ntmps72
  go_wp2
  go_quiet (fail)
  go_wp2
  go_ret
  exact ⟨rfl, below_drewN (Below.box _ _) _⟩

set_option maxRecDepth 20000 in
set_option maxHeartbeats 1600000 in
theorem length_any (g a : Nat) (op b c m : Int) (A : Option Addr) (n cap : Nat) (cs : Array Value) (w : World) (hb : RnB w g cs) (hz : cs.size = 45) (ha : a < 8) (hx : cs[6]? = some (.slice A n cap)) (hn : n ≤ maxLen) :
    Calls Tryd.prog 76 #[.pointer (some ⟨g, 0, none⟩), .agg #[.int .i64 op, .int .i64 a, .int .i64 b, .int .i64 c, .int .u64 m]] w fun e w' =>
      e = .returned (.int .i64 0) ∧ RnB w' g (cs.setIfInBounds (8 + a) (.int .u64 n)) ∧ Fr g none none w w' := by
  unfold maxLen at hn
  have c0 := hb.cA hx
  have e1 : IntKind.u64.wrap (n : Int) = n := by rw [IntKind.wrap_u64]; omega
  have HB := Lib.hid hb
  clear hb hx
  go_enter Tryd.func76, Tryd.ntmps76
  go_wp2
  refine still_tail 8 (by kernel_rfl) (by kernel_rfl) ?_
  simp only [List.take_succ_cons, List.take_zero, List.drop_succ_cons, List.drop_zero]
  repeat still_step
  refine wpStill_nil ?_
  go_wp2_with fail
  refine (put_reg g a op b c m n cs _ (HB.out.box _).drew hz ha).mono ?_
  rintro e v ⟨rfl, h1, h2⟩
  go_wp2
  go_ret
  exact ⟨rfl, h1, (Fr.box _ _).drew.trans h2⟩

set_option maxRecDepth 20000 in
set_option maxHeartbeats 1600000 in
theorem jump_any (g : Nat) (op a b c m : Int) (cs : Array Value) (w : World) (hb : RnB w g cs) (hz : cs.size = 45) (h0 : 0 ≤ m) (hm : m < 9223372036854775808) :
    Calls Tryd.prog 77 #[.pointer (some ⟨g, 0, none⟩), .agg #[.int .i64 op, .int .i64 a, .int .i64 b, .int .i64 c, .int .u64 m]] w fun e w' =>
      e = .returned (.int .i64 0) ∧ RnB w' g (cs.setIfInBounds 18 (.int .i64 m)) ∧ Fr g none none w w' := by
  obtain ⟨v, hv⟩ := RnB.ex hz (i := 18) (by omega)
  have c0 := hb.cA hv
  have cf := hb.fA 18
  have e1 : IntKind.i64.wrap m = m := by rw [IntKind.wrap_i64]; omega
  have HB := Lib.hid hb
  clear hb hv hz
  go_enter Tryd.func77, Tryd.ntmps77
  go_wp2
  go_ret
  exact ⟨rfl, (HB.out.box _).set _, ((Fr.box _ _).trans (Fr.set _ _ _))⟩

set_option maxRecDepth 20000 in
set_option maxHeartbeats 1600000 in
theorem branch_on (g a : Nat) (op b c m x : Int) (cs : Array Value) (w : World) (hb : RnB w g cs) (ha : a < 8) (hx : cs[8 + a]? = some (.int .u64 x)) (h : x = 0) :
    Calls Tryd.prog 78 #[.pointer (some ⟨g, 0, none⟩), .agg #[.int .i64 op, .int .i64 a, .int .i64 b, .int .i64 c, .int .u64 m]] w fun e w' => e = .returned (.int .i64 0) ∧ Below w.heap.size w w' := by
  have c1 := hb.cA hx
  have hk' : (a : Int) < 8 := by omega
  have e0 : (x == 0) = true := by simpa using h
  clear hb hx h
  go_enter Tryd.func78, Tryd.ntmps78
  go_wp2
  go_quiet (fail)
  go_wp2
  go_ret
  exact ⟨rfl, below_drewN (Below.box _ _) _⟩

set_option maxRecDepth 20000 in
set_option maxHeartbeats 1600000 in
theorem branch_to (g a : Nat) (op b c m x : Int) (cs : Array Value) (w : World) (hb : RnB w g cs) (hz : cs.size = 45) (ha : a < 8) (hx : cs[8 + a]? = some (.int .u64 x)) (h : x ≠ 0) (h0 : 0 ≤ m) (hm : m < 9223372036854775808) :
    Calls Tryd.prog 78 #[.pointer (some ⟨g, 0, none⟩), .agg #[.int .i64 op, .int .i64 a, .int .i64 b, .int .i64 c, .int .u64 m]] w fun e w' =>
      e = .returned (.int .i64 0) ∧ RnB w' g (cs.setIfInBounds 18 (.int .i64 m)) ∧ Fr g none none w w' := by
  have c1 := hb.cA hx
  have hk' : (a : Int) < 8 := by omega
  have e0 : (x == 0) = false := by simpa using h
  have HB := Lib.hid hb
  clear hb hx h
  go_enter Tryd.func78, Tryd.ntmps78
  go_wp2
  go_quiet (fail)
  go_wp2_with fail
  refine (jump_any g op a b c m cs _ ((HB.out.box _).drewN _) hz h0 hm).mono ?_
  rintro e v ⟨rfl, h1, h2⟩
  go_wp2
  go_ret
  exact ⟨rfl, h1, ((Fr.box _ _).drewN _).trans h2⟩
end Go.Proofs.YtfhnigfghfmolaaDoor
namespace Go.Proofs.YtfhnigfghfmolaaDoor
set_option maxRecDepth 100000

section
variable {P : Program} {ops : Array Oper} {md : Region.Mode} {C : World → Prop}

/-- So many operations come up, each of the head, whatever order is picked. -/
def headQ (P : Program) (md : Region.Mode) (ops : Array Oper) (C : World → Prop) (n : Nat) (L : Array Bool → Act → Prop) : Nat → Array Bool → Act → Prop
  | 0, listed, a => L listed a
  | f + 1, listed, a => Region.ready md ops listed ≠ [] ∧ ∀ i ∈ Region.ready md ops listed, i < n ∧ qOp P ops C i (headQ P md ops C n L f (listed.setIfInBounds i true)) a

theorem any_of_headQ {n g : Nat} {L : Array Bool → Act → Prop} {Q : Exit → Act → World → Prop} (hL : ∀ listed a w, C w → L listed a → wpAny P md ops Q g listed a w) :
    ∀ (f : Nat) (listed : Array Bool) (a : Act) (w : World), C w → headQ P md ops C n L f listed a → wpAny P md ops Q (f + g) listed a w := by
  intro f
  induction f with
  | zero => intro listed a w hw h; rw [Nat.zero_add]; exact hL _ _ _ hw h
  | succ f ih =>
    intro listed a w hw h
    have e : f + 1 + g = (f + g) + 1 := by omega
    rw [e]
    exact ⟨fun h0 => absurd h0 h.1, fun i hi => wpOp_of_qOp hw (fun a' w' hw' h' => ih _ a' w' hw' h') (h.2 i hi).2⟩

theorem headQ_take {n i : Nat} {oi : Oper} {v : Value} {L : Array Bool → Act → Prop} (hi : ops[i]? = some oi) (hsel : ∀ (j : Nat) (o : Oper) cs b, ops[j]? = some o → o.op ≠ .select cs b)
    (hs : Region.sinkB md ops n = true) (hc : Region.chainB md ops n = true) (hn : n < ops.size) (hin : i < n) (hdone : ∀ listed a, L listed a → ∀ j ∈ Region.ready md ops listed, n ≤ j) :
    ∀ (f : Nat) (listed : Array Bool) (a : Act), HeadInv md ops n listed →
      (∀ j oj, ops[j]? = some oj → j ≠ i → listed.getD j true = false → (∀ e ∈ oj.after, Region.binds md e = true → e.on ≠ i) → oi.apart ops oj = true) →
      i ∈ Region.ready md ops listed → YieldsIn P ops C oi v a →
      headQ P md ops C n L f (listed.setIfInBounds i true) (a.put oi.dst v) → headQ P md ops C n L (f + 1) listed a := by
  intro f
  induction f with
  | zero =>
    intro listed a inv _ hr hy H
    have hun := (mem_ready.1 hr).1
    refine ⟨fun h => (by rw [h] at hr; cases hr), fun j hj => ?_⟩
    have hjn : j < n := (Nat.lt_or_ge j n).resolve_right fun h => tail_waits hs hc hn inv _ i rfl hin hun j h hj
    by_cases hji : j = i
    · subst hji; exact ⟨hjn, hy.qOp hi H⟩
    · have := hdone _ _ H j (ready_mono hj hji)
      omega
  | succ f ih =>
    intro listed a inv hfree hr hy H
    have hun := (mem_ready.1 hr).1
    refine ⟨fun h => (by rw [h] at hr; cases hr), fun j hj => ?_⟩
    have hjn : j < n := (Nat.lt_or_ge j n).resolve_right fun h => tail_waits hs hc hn inv _ i rfl hin hun j h hj
    refine ⟨hjn, ?_⟩
    by_cases hji : j = i
    · subst hji; exact hy.qOp hi H
    obtain ⟨hjun, oj, hoj, hall⟩ := mem_ready.1 hj
    have hnot : ∀ e ∈ oj.after, Region.binds md e = true → e.on ≠ i := fun e he hb heq => by
      have h1 := hall e he hb
      rw [heq, getD_both hun] at h1
      cases h1
    have h2 := qOp_put hoj (hfree j oj hoj hji hjun hnot) (fun cs b => hsel i oi cs b hi) (fun cs b => hsel j oj cs b hoj) hy (H.2 j (ready_mono hj hji)).2
    refine qOp_mono (fun a' h3 => ih (listed.setIfInBounds j true) a' (inv.set hj hjn) (fun k ok hk hki hu hno => ?_) (ready_mono hr (Ne.symm hji)) h3.1 ?_) h2
    · refine hfree k ok hk hki ?_ hno
      by_cases hjk : j = k
      · subst hjk; exact hjun
      · rwa [getD_set_ne true hjk] at hu
    · rw [Array.setIfInBounds_comm _ _ hji]
      exact h3.2

theorem headQ_lex {n g : Nat} {K : Act → Prop} (hsel : Region.noSelect ops = true) (hs : Region.sinkB md ops n = true) (hc : Region.chainB md ops n = true) (hn : n < ops.size) :
    ∀ (l : List Oper) (k : Nat) (listed : Array Bool) (a : Act), (∀ j, j < l.length → l[j]? = ops[k + j]?) → k + l.length = n → HeadInv md ops n listed →
      Region.lexHead md ops g l.length k listed = true → wpQuiet P ops C K l a → headQ P md ops C n (fun listed' a' => Region.seqB md ops g n listed' = true ∧ K a') l.length listed a := by
  intro l
  induction l with
  | nil =>
    intro k listed a _ hk _ hB h
    obtain rfl : k = n := by simpa using hk
    exact ⟨by simpa [Region.lexHead] using hB, h⟩
  | cons o l ih =>
    intro k listed a hl hk inv hB h
    have h0 : ops[k]? = some o := by simpa using (hl 0 (by simp)).symm
    simp only [List.length_cons, Region.lexHead, Bool.and_eq_true] at hB hk
    obtain ⟨⟨hr, hf⟩, hB'⟩ := hB
    have hkn : k < n := by omega
    have hr' : k ∈ Region.ready md ops listed := by simpa using hr
    have hq : qOp P ops C k (wpQuiet P ops C K l) a := by unfold qOp; simp only [h0]; exact h
    obtain ⟨v, hy, hK⟩ := yieldsIn_of_qOp h0 hq
    exact headQ_take h0 (Region.noSelect_spec hsel) hs hc hn hkn (fun listed' a' hL => seqB_ready hL.1) l.length listed a inv (Region.free_spec h0 hf) hr' hy
      (ih (k + 1) _ _ (fun j hj => by have := hl (j + 1) (by simp; omega); simpa [Nat.add_assoc, Nat.add_comm 1 j] using this) (by omega) (inv.set hr' hkn) hB' hK)

/-- The first n operations quiet, the others one behind the other. -/
theorem quiet_tail {id : Nat} {Q : Exit → Act → World → Prop} {a : Act} {w : World} {l : List Oper} (n : Nat) (hm : P.follows .mixedOrders = true) (hB : Region.lexTailB .any l.toArray n = true)
    (h : wpQuiet P l.toArray (fun w' => ∃ n, w' = w.drewN n) (fun a' => ∀ w', (∃ n, w' = w.drewN n) → wpList P l.toArray Q (l.drop n) a' w') (l.take n) a) : (Code.region id l.toArray true).wp P Q a w := by
  simp only [Region.lexTailB, Bool.and_eq_true, decide_eq_true_eq] at hB
  obtain ⟨⟨⟨⟨hsel, hn⟩, hs⟩, hc⟩, hlex⟩ := hB
  have hn' : n < l.length := by simpa using hn
  have htl : (l.take n).length = n := by simp; omega
  have inv0 : HeadInv .any l.toArray n (Array.replicate l.toArray.size false) :=
    ⟨by simp, fun j oj _ hl => (by rw [getD_replicate_false] at hl; cases hl), fun t _ ht => getD_in (by simpa using ht) (getD_replicate_false _ _)⟩
  have H := headQ_lex (C := fun w' => ∃ n, w' = w.drewN n) (md := .any) (g := l.toArray.size - n) hsel hs hc hn (l.take n) 0 _ a (fun j hj => by
    have hj' : j < n := by rw [htl] at hj; exact hj
    simp [hj']) (by simpa using htl) inv0 (by rw [htl]; exact hlex) h
  refine wp_region_any hm ?_
  have hdl : (l.drop n).length = l.toArray.size - n := by simp
  have hsz : l.toArray.size = (l.take n).length + (l.toArray.size - n) := by rw [htl]; simp; omega
  have key := any_of_headQ (C := fun w' => ∃ n, w' = w.drewN n) (g := l.toArray.size - n) (Q := Q) (L := fun listed' a' => Region.seqB .any l.toArray (l.toArray.size - n) n listed' = true ∧ ∀ w', (∃ n, w' = w.drewN n) → wpList P l.toArray Q (l.drop n) a' w') (fun listed a' w' hw' h' => by
    have h2 : Region.seqB .any l.toArray (l.drop n).length n listed = true := by rw [hdl]; exact h'.1
    have h3 := wpAny_of_seq (P := P) (Q' := Q) (l.drop n) n listed a' w' (fun j => by simp) h2 (h'.2 w' hw')
    rwa [hdl] at h3) (l.take n).length (Array.replicate l.toArray.size false) a { w with drawn := w.drawn + 1 } ⟨1, rfl⟩ (by simpa using H)
  rwa [← hsz] at key
end
end Go.Proofs.YtfhnigfghfmolaaDoor
namespace Go.Proofs.YtfhnigfghfmolaaDoor
set_option maxRecDepth 100000
open Go.RowKit

set_option maxRecDepth 20000 in
set_option maxHeartbeats 1600000 in
theorem apply_any (g a b c : Nat) (op m x y : Int) (cs : Array Value) (w : World) (hb : RnB w g cs) (hz : cs.size = 45) (ha : a < 8) (hl : b < 8) (hk : c < 8) (hx : cs[8 + b]? = some (.int .u64 x)) (hy : cs[8 + c]? = some (.int .u64 y)) (h0 : 0 ≤ op) (h1 : op < 26) :
    Calls Tryd.prog 71 #[.pointer (some ⟨g, 0, none⟩), .agg #[.int .i64 op, .int .i64 a, .int .i64 b, .int .i64 c, .int .u64 m]] w fun e w' =>
      e = .returned (.int .i64 0) ∧ RnB w' g (cs.setIfInBounds (8 + a) (.int .u64 (Wd.app (op + 5) 64 x y))) ∧ Fr g none none w w' := by
  have c0 := hb.cA hx
  have c1 := hb.cA hy
  have hl' : (b : Int) < 8 := by omega
  have hk' : (c : Int) < 8 := by omega
  have HB := Lib.hid hb
  clear hb hx hy
  go_enter Tryd.func71, Tryd.ntmps71
  go_wp2
  refine quiet_tail 22 (by kernel_rfl) (by kernel_rfl) ?_
  simp only [List.take_succ_cons, List.take_zero, List.drop_succ_cons, List.drop_zero]
  repeat (quiet_step ((go_at_call 90; exact Calls.quiet_of (app_any _ _ _ _ _))))
  refine wpQuiet_nil ?_
  intro _ hw'
  obtain ⟨nq, hw''⟩ := hw'
  subst hw''
  go_wp2_with fail
  refine (put_reg g a op b c m _ cs _ ((HB.out.box _).drewN nq) hz ha).mono ?_
  rintro e v ⟨rfl, h2, h3⟩
  go_wp2
  go_ret
  exact ⟨rfl, h2, ((Fr.box _ _).drewN nq).trans h3⟩

set_option maxRecDepth 20000 in
set_option maxHeartbeats 1600000 in
theorem divide_any (g a b c : Nat) (op m x y : Int) (cs : Array Value) (w : World) (hb : RnB w g cs) (hz : cs.size = 45) (ha : a < 8) (hl : b < 8) (hk : c < 8) (hx : cs[8 + b]? = some (.int .u64 x)) (hy : cs[8 + c]? = some (.int .u64 y)) (h0 : 0 ≤ op) (h1 : op < 26) (hn : y ≠ 0) :
    Calls Tryd.prog 72 #[.pointer (some ⟨g, 0, none⟩), .agg #[.int .i64 op, .int .i64 a, .int .i64 b, .int .i64 c, .int .u64 m]] w fun e w' =>
      e = .returned (.int .i64 0) ∧ RnB w' g (cs.setIfInBounds (8 + a) (.int .u64 (Wd.app (op + 5) 64 x y))) ∧ Fr g none none w w' := by
  have c1 := hb.cA hy
  have hk' : (c : Int) < 8 := by omega
  have e0 : (y == 0) = false := by simpa using hn
  have HB := Lib.hid hb
  clear hb hn
  go_enter Tryd.func72, Tryd.ntmps72
  go_wp2
  go_quiet (fail)
  go_wp2_with fail
  refine (apply_any g a b c op m x y cs _ ((HB.out.box _).drewN nq) hz ha hl hk hx hy h0 h1).mono ?_
  rintro e v ⟨rfl, h2, h3⟩
  go_wp2
  go_ret
  exact ⟨rfl, h2, ((Fr.box _ _).drewN nq).trans h3⟩

set_option maxRecDepth 20000 in
set_option maxHeartbeats 1600000 in
theorem read_out (g b : Nat) (op a c m x : Int) (cs : Array Value) (w : World) (A : Option Addr) (n cap : Nat) (hb : RnB w g cs) (hl : b < 8) (hx : cs[8 + b]? = some (.int .u64 x)) (hi : cs[6]? = some (.slice A n cap)) (hn : n ≤ maxLen) (h : ¬ (x + m) % 18446744073709551616 < n) :
    Calls Tryd.prog 75 #[.pointer (some ⟨g, 0, none⟩), .agg #[.int .i64 op, .int .i64 a, .int .i64 b, .int .i64 c, .int .u64 m]] w fun e w' => e = .returned (.int .i64 5) ∧ Below w.heap.size w w' := by
  unfold maxLen at hn
  have e1 : IntKind.u64.wrap (n : Int) = n := by rw [IntKind.wrap_u64]; omega
  have e2 : IntKind.u64.wrap (x + m) = (x + m) % 18446744073709551616 := IntKind.wrap_u64 _
  have c6 := (hb.box (.cells #[.int .i64 op, .int .i64 a, .int .i64 b, .int .i64 c, .int .u64 m] 59)).c 6
  rw [hi] at c6
  have HB := Lib.hid hb
  have HI := Lib.hid hi
  clear hb hi c6
  generalize (x + m) % 18446744073709551616 = y at *
  have hy : (n : Int) ≤ y := by omega
  have E2 := Lib.hid e2
  clear e2 h
  go_enter Tryd.func75, Tryd.ntmps75
  go_wp2_with fail
  refine (address_any g b op a c m x cs _ (HB.out.box _) hx hl).mono ?_
  rintro e v ⟨rfl, hbv⟩
  rw [E2.out]
  have c6 : v.cell? ⟨g, 6, none⟩ = some (.slice A n cap) := by rw [((HB.out.box _).below hbv).c 6]; exact HI.out
  have HV := Lib.hid hbv
  clear hbv
  go_wp2
  go_ret
  exact ⟨rfl, (Below.box _ _).trans (HV.out.mono (by simp))⟩

set_option maxRecDepth 20000 in
set_option maxHeartbeats 1600000 in
theorem read_in (g a b : Nat) (op c m x z : Int) (cs : Array Value) (w : World) (ib io n cap : Nat) (hb : RnB w g cs) (hz : cs.size = 45) (ha : a < 8) (hl : b < 8) (hx : cs[8 + b]? = some (.int .u64 x)) (hi : cs[6]? = some (.slice (some ⟨ib, io, none⟩) n cap)) (hn : n ≤ maxLen)
    (k : Nat) (hk : (x + m) % 18446744073709551616 = k) (hkn : k < n) (hib : ib < w.heap.size) (hcell : w.cell? ⟨ib, io + k, none⟩ = some (.int .u8 z)) (z0 : 0 ≤ z) (z1 : z ≤ 255) :
    Calls Tryd.prog 75 #[.pointer (some ⟨g, 0, none⟩), .agg #[.int .i64 op, .int .i64 a, .int .i64 b, .int .i64 c, .int .u64 m]] w fun e w' =>
      e = .returned (.int .i64 0) ∧ RnB w' g (cs.setIfInBounds (8 + a) (.int .u64 z)) ∧ Fr g none none w w' := by
  unfold maxLen at hn
  have e1 : IntKind.u64.wrap (n : Int) = n := by rw [IntKind.wrap_u64]; omega
  have e2 : IntKind.u64.wrap (x + m) = (k : Int) := by rw [IntKind.wrap_u64]; exact hk
  have e3 : IntKind.u64.wrap z = z := by rw [IntKind.wrap_u64]; omega
  have hkn' : ¬ (n : Int) ≤ k := by omega
  have hkn2 : (k : Int) < n := by omega
  have HB := Lib.hid hb
  have HI := Lib.hid hi
  have HX := Lib.hid hx
  have HC := Lib.hid hcell
  have HIB := Lib.hid hib
  have E2 := Lib.hid e2
  clear hb hi hcell hib e2 hk hx
  go_enter Tryd.func75, Tryd.ntmps75
  go_wp2_with fail
  refine (address_any g b op a c m x cs _ (HB.out.box _) HX.out hl).mono ?_
  rintro e v ⟨rfl, hbv⟩
  rw [E2.out]
  have HBV := Lib.hid ((HB.out.box _).below hbv)
  have c6 : v.cell? ⟨g, 6, none⟩ = some (.slice (some ⟨ib, io, none⟩) n cap) := by rw [HBV.out.c 6]; exact HI.out
  have cz : v.cell? ⟨ib, io + k, none⟩ = some (.int .u8 z) := (hbv.cell (p := ⟨ib, io + k, none⟩) (by simp; have := HIB.out; omega)).trans (((Below.box w _).cell (p := ⟨ib, io + k, none⟩) HIB.out).trans HC.out)
  have cb : v.cell? ⟨w.heap.size, 0, none⟩ = some (.int .i64 op) := cells_below hbv (by simp) (by simp)
  have cb1 : v.cell? ⟨w.heap.size, 1, none⟩ = some (.int .i64 a) := cells_below hbv (by simp) (by simp)
  have cb2 : v.cell? ⟨w.heap.size, 2, none⟩ = some (.int .i64 b) := cells_below hbv (by simp) (by simp)
  have cb3 : v.cell? ⟨w.heap.size, 3, none⟩ = some (.int .i64 c) := cells_below hbv (by simp) (by simp)
  have cb4 : v.cell? ⟨w.heap.size, 4, none⟩ = some (.int .u64 m) := cells_below hbv (by simp) (by simp)
  have HV := Lib.hid hbv
  clear hbv
  go_wp2
  refine still_tail 10 (by kernel_rfl) (by kernel_rfl) ?_
  simp only [List.take_succ_cons, List.take_zero, List.drop_succ_cons, List.drop_zero]
  repeat still_step
  refine wpStill_nil ?_
  go_wp2_with fail
  refine (put_reg g a op b c m z cs _ HBV.out.drew hz ha).mono ?_
  rintro e v2 ⟨rfl, h1, h2⟩
  go_wp2
  go_ret
  exact ⟨rfl, h1, (Fr.of_below ((Below.box _ _).trans (HV.out.mono (by simp)))).drew.trans h2⟩

set_option maxRecDepth 20000 in
set_option maxHeartbeats 1600000 in
theorem back_empty (g : Nat) (op a b c m : Int) (A : Option Addr) (cap : Nat) (cs : Array Value) (w : World) (hb : RnB w g cs) (ho : cs[17]? = some (.slice A 0 cap)) :
    Calls Tryd.prog 80 #[.pointer (some ⟨g, 0, none⟩), .agg #[.int .i64 op, .int .i64 a, .int .i64 b, .int .i64 c, .int .u64 m]] w fun e w' => e = .returned (.int .i64 1) ∧ Below w.heap.size w w' := by
  have c0 := hb.cA ho
  clear hb ho
  go_enter Tryd.func80, Tryd.ntmps80
  go_wp2
  go_ret
  exact ⟨rfl, Below.box _ _⟩

set_option maxRecDepth 20000 in
set_option maxHeartbeats 1600000 in
theorem back_to (g o n cap : Nat) (op a b c m z : Int) (cs : Array Value) (w : World) (hb : RnB w g cs) (hz : cs.size = 45) (ho : cs[17]? = some (.slice (some ⟨o, 0, none⟩) (n + 1) cap)) (hcap : n + 1 ≤ cap) (hm : cap ≤ maxLen) (hl : o < w.heap.size) (hcell : w.cell? ⟨o, n, none⟩ = some (.int .i64 z)) (hog : o ≠ g) :
    Calls Tryd.prog 80 #[.pointer (some ⟨g, 0, none⟩), .agg #[.int .i64 op, .int .i64 a, .int .i64 b, .int .i64 c, .int .u64 m]] w fun e w' =>
      e = .returned (.int .i64 0) ∧ RnB w' g ((cs.setIfInBounds 18 (.int .i64 z)).setIfInBounds 17 (.slice (some ⟨o, 0, none⟩) n cap)) ∧ Fr g none none w w' := by
  unfold maxLen at hm
  obtain ⟨v, hv⟩ := RnB.ex hz (i := 18) (by omega)
  have c0 := hb.cA ho
  have c1 := hb.cA hv
  have cf := hb.fA 18
  have cf2 := hb.fA 17
  have cz : ∀ x, (w.alloc x).cell? ⟨o, n, none⟩ = some (.int .i64 z) := fun x => ((Below.box w x).cell (p := ⟨o, n, none⟩) hl).trans hcell
  have HB := Lib.hid hb
  clear hb hv ho hcell
  go_enter Tryd.func80, Tryd.ntmps80
  go_wp2
  go_ret
  exact ⟨rfl, ((HB.out.box _).set _).set _, ((Fr.box _ _).trans (Fr.set _ _ _)).trans (Fr.set _ _ _)⟩

set_option maxRecDepth 20000 in
set_option maxHeartbeats 1600000 in
theorem call_full (g : Nat) (op a b c m stk : Int) (A : Option Addr) (n cap : Nat) (cs : Array Value) (w : World) (hb : RnB w g cs) (ho : cs[17]? = some (.slice A n cap)) (hs : cs[1]? = some (.int .i64 stk)) (hn : n ≤ maxLen) (h : stk ≤ n) :
    Calls Tryd.prog 79 #[.pointer (some ⟨g, 0, none⟩), .agg #[.int .i64 op, .int .i64 a, .int .i64 b, .int .i64 c, .int .u64 m]] w fun e w' => e = .returned (.int .i64 4) ∧ Below w.heap.size w w' := by
  unfold maxLen at hn
  have c0 := hb.cA ho
  have c1 := hb.cA hs
  clear hb ho hs
  go_enter Tryd.func79, Tryd.ntmps79
  go_wp2
  go_quiet (fail)
  go_wp2
  go_ret
  exact ⟨rfl, below_drewN (Below.box _ _) _⟩
end Go.Proofs.YtfhnigfghfmolaaDoor
namespace Go.Proofs.YtfhnigfghfmolaaDoor
set_option maxRecDepth 100000

section
variable {P : Program} {ops : Array Oper} {md : Region.Mode} {S : World → Prop} {Q : Exit → Act → World → Prop}

def headS (P : Program) (md : Region.Mode) (ops : Array Oper) (Q : Exit → Act → World → Prop) (S : World → Prop) (n : Nat) (L : Array Bool → Act → World → Prop) : Nat → Array Bool → Act → World → Prop
  | 0, listed, a, w => L listed a w
  | f + 1, listed, a, w => Region.ready md ops listed ≠ [] ∧ ∀ i ∈ Region.ready md ops listed, i < n ∧ wpOp P ops Q i (fun a' w' => S w' ∧ headS P md ops Q S n L f (listed.setIfInBounds i true) a' w') a w

theorem any_of_headS {n g : Nat} {L : Array Bool → Act → World → Prop} (hL : ∀ listed a w, L listed a w → wpAny P md ops Q g listed a w) :
    ∀ (f : Nat) (listed : Array Bool) (a : Act) (w : World), headS P md ops Q S n L f listed a w → wpAny P md ops Q (f + g) listed a w := by
  intro f
  induction f with
  | zero => intro listed a w h; rw [Nat.zero_add]; exact hL _ _ _ h
  | succ f ih =>
    intro listed a w h
    have e : f + 1 + g = (f + g) + 1 := by omega
    rw [e]
    exact ⟨fun h0 => absurd h0 h.1, fun i hi => wpOp_mono (fun a' w' h' => ih _ a' w' h'.2) (h.2 i hi).2⟩

theorem headS_take0 {n i : Nat} {oi : Oper} {v : Value} {L : Array Bool → Act → World → Prop} (hi : ops[i]? = some oi) (hsel : ∀ (j : Nat) (o : Oper) cs b, ops[j]? = some o → o.op ≠ .select cs b)
    (hs : Region.sinkB md ops n = true) (hc : Region.chainB md ops n = true) (hn : n < ops.size) (hin : i < n) (hdone : ∀ listed a w, L listed a w → ∀ j ∈ Region.ready md ops listed, n ≤ j)
    (hQ : ∀ c a w, Q (.panic c) (a.put oi.dst v) w → Q (.panic c) a w) :
    ∀ (f : Nat) (listed : Array Bool) (a : Act) (w : World), HeadInv md ops n listed →
      (∀ j oj, ops[j]? = some oj → j ≠ i → listed.getD j true = false → (∀ e ∈ oj.after, Region.binds md e = true → e.on ≠ i) → oi.apart ops oj = true) →
      i ∈ Region.ready md ops listed → YieldsIf P ops S oi v a → S w →
      headS P md ops Q S n L f (listed.setIfInBounds i true) (a.put oi.dst v) w → headS P md ops Q S n L (f + 1) listed a w := by
  intro f
  induction f with
  | zero =>
    intro listed a w inv _ hr hy hS H
    have hun := (mem_ready.1 hr).1
    refine ⟨fun h => (by rw [h] at hr; cases hr), fun j hj => ?_⟩
    have hjn : j < n := (Nat.lt_or_ge j n).resolve_right fun h => tail_waits hs hc hn inv _ i rfl hin hun j h hj
    by_cases hji : j = i
    · subst hji; exact ⟨hjn, hy.wpOp hi hS ⟨hS, H⟩⟩
    · have := hdone _ _ _ H j (ready_mono hj hji)
      omega
  | succ f ih =>
    intro listed a w inv hfree hr hy hS H
    have hun := (mem_ready.1 hr).1
    refine ⟨fun h => (by rw [h] at hr; cases hr), fun j hj => ?_⟩
    have hjn : j < n := (Nat.lt_or_ge j n).resolve_right fun h => tail_waits hs hc hn inv _ i rfl hin hun j h hj
    refine ⟨hjn, ?_⟩
    by_cases hji : j = i
    · subst hji; exact hy.wpOp hi hS ⟨hS, H⟩
    obtain ⟨hjun, oj, hoj, hall⟩ := mem_ready.1 hj
    have hnot : ∀ e ∈ oj.after, Region.binds md e = true → e.on ≠ i := fun e he hb heq => by
      have h1 := hall e he hb
      rw [heq, getD_both hun] at h1
      cases h1
    have h2 := wpOp_putIf hoj (hfree j oj hoj hji hjun hnot) (fun cs b => hsel i oi cs b hi) (fun cs b => hsel j oj cs b hoj) hQ hy (H.2 j (ready_mono hj hji)).2
    refine wpOp_mono (fun a' w' h3 => ⟨h3.2.1, ih (listed.setIfInBounds j true) a' w' (inv.set hj hjn) (fun k ok hk hki hu hno => ?_) (ready_mono hr (Ne.symm hji)) h3.1 h3.2.1 ?_⟩) h2
    · refine hfree k ok hk hki ?_ hno
      by_cases hjk : j = k
      · subst hjk; exact hjun
      · rwa [getD_set_ne true hjk] at hu
    · rw [Array.setIfInBounds_comm _ _ hji]
      exact h3.2.2

/-- The invariant of what has come up, as a Bool: whatever has come up had all that it waits for; of the tail nothing has. -/
def headB (md : Region.Mode) (ops : Array Oper) (n : Nat) (listed : Array Bool) : Bool :=
  decide (listed.size = ops.size) && (List.range ops.size).all (fun j => !listed.getD j false || (match ops[j]? with | some oj => oj.after.all fun e => !Region.binds md e || listed.getD e.on false | none => true)) &&
    (List.range ops.size).all fun t => decide (t < n) || !listed.getD t true
theorem headB_inv {n : Nat} {listed : Array Bool} (h : headB md ops n listed = true) : HeadInv md ops n listed := by
  simp only [headB, Bool.and_eq_true, decide_eq_true_eq, List.all_eq_true, List.mem_range] at h
  obtain ⟨⟨h1, h2⟩, h3⟩ := h
  refine ⟨h1, fun j oj hj hl e he hb => ?_, fun t ht ht' => ?_⟩
  · have hjs : j < ops.size := (Array.getElem?_eq_some_iff.1 hj).1
    have := h2 j hjs
    simp only [hl, hj, Bool.not_true, Bool.false_or] at this
    have := Array.all_eq_true'.1 this e he
    simpa [hb] using this
  · have := h3 t ht'
    simp only [Bool.or_eq_true, decide_eq_true_eq, Bool.not_eq_true'] at this
    exact this.resolve_left (Nat.not_lt.2 ht)

/-- Whether the tail may begin once these have come up. -/
abbrev TailL (P : Program) (ops : Array Oper) (l : List Oper) (Q : Exit → Act → World → Prop) (n : Nat) : Array Bool → Act → World → Prop := fun listed a w => Region.seqB .any ops (ops.size - n) n listed = true ∧ wpList P ops Q (l.drop n) a w

theorem headS_take {l : List Oper} {n i f : Nat} {oi : Oper} {v : Value} {listed : Array Bool} {a : Act} {w : World} (hi : l.toArray[i]? = some oi) (hB : (Region.noSelect l.toArray && decide (n < l.toArray.size) && Region.sinkB .any l.toArray n && Region.chainB .any l.toArray n && decide (i < n) && headB .any l.toArray n listed && Region.free .any l.toArray listed i && (Region.ready .any l.toArray listed).contains i) = true)
    (hQ : ∀ c a w, Q (.panic c) (a.put oi.dst v) w → Q (.panic c) a w) (hy : YieldsIf P l.toArray S oi v a) (hS : S w)
    (h : headS P .any l.toArray Q S n (TailL P l.toArray l Q n) f (listed.setIfInBounds i true) (a.put oi.dst v) w) : headS P .any l.toArray Q S n (TailL P l.toArray l Q n) (f + 1) listed a w := by
  simp only [Bool.and_eq_true, decide_eq_true_eq] at hB
  obtain ⟨⟨⟨⟨⟨⟨⟨h1, h2⟩, h3⟩, h4⟩, h5⟩, h6⟩, h7⟩, h8⟩ := hB
  exact headS_take0 hi (Region.noSelect_spec h1) h3 h4 h2 h5 (fun listed a w hL => seqB_ready hL.1) hQ f listed a w (headB_inv h6) (Region.free_spec hi h7) (by simpa using h8) hy hS h

def AllS (P : Program) (md : Region.Mode) (ops : Array Oper) (Q : Exit → Act → World → Prop) (S : World → Prop) (n : Nat) (L : Array Bool → Act → World → Prop) (f : Nat) (listed : Array Bool) (a : Act) (w : World) (rs : List Nat) : Prop :=
  ∀ i ∈ rs, wpOp P ops Q i (fun a' w' => S w' ∧ headS P md ops Q S n L f (listed.setIfInBounds i true) a' w') a w
theorem AllS.nil {n f : Nat} {L : Array Bool → Act → World → Prop} {listed : Array Bool} {a : Act} {w : World} : AllS P md ops Q S n L f listed a w [] := fun _ h => by cases h
theorem AllS.cons {n f : Nat} {L : Array Bool → Act → World → Prop} {listed : Array Bool} {a : Act} {w : World} {i : Nat} {o : Oper} {rs : List Nat} (ho : ops[i]? = some o)
    (h : ∀ K' : Act → World → Prop, Shut (∀ a w, S w → (S w → headS P md ops Q S n L f (listed.setIfInBounds i true) a w) → K' a w) → if Region.wanted o (yielded ops a.tmps) = true then Oper.wp P o a w K' Q else K' (a.put o.dst undef) w)
    (hs : AllS P md ops Q S n L f listed a w rs) : AllS P md ops Q S n L f listed a w (i :: rs) := fun j hj => by
  rcases List.mem_cons.1 hj with rfl | hj
  · exact wpOp_step ho (fun K' hK => h K' (fun a w hS hW => hK a w ⟨hS, hW hS⟩))
  · exact hs j hj
theorem headS_ready {n : Nat} {L : Array Bool → Act → World → Prop} {rs : List Nat} {f : Nat} {listed : Array Bool} {a : Act} {w : World} (hr : Region.ready md ops listed = rs) (hne : rs ≠ []) (hlt : rs.all (fun i => decide (i < n)) = true)
    (h : AllS P md ops Q S n L f listed a w rs) : headS P md ops Q S n L (f + 1) listed a w :=
  ⟨fun h0 => absurd (hr ▸ h0) hne, by rw [hr]; exact fun i hi => ⟨by simpa using List.all_eq_true.1 hlt i hi, h i hi⟩⟩

/-- The beginning: n operations of the head. -/
theorem held_tail {id : Nat} {a : Act} {w : World} {l : List Oper} (n : Nat) (hm : P.follows .mixedOrders = true) (hn : n < l.length) (hS : S w.drew)
    (h : S w.drew → headS P .any l.toArray Q S n (TailL P l.toArray l Q n) n (Array.replicate l.toArray.size false) a w.drew) : (Code.region id l.toArray true).wp P Q a w := by
  refine wp_region_any hm ?_
  have hdl : (l.drop n).length = l.toArray.size - n := by simp
  have hsz : n + (l.toArray.size - n) = l.toArray.size := by simp; omega
  have key := any_of_headS (P := P) (md := .any) (ops := l.toArray) (Q := Q) (S := S) (n := n) (g := l.toArray.size - n) (L := TailL P l.toArray l Q n) (fun listed a' w' h' => by
    have h2 : Region.seqB .any l.toArray (l.drop n).length n listed = true := by rw [hdl]; exact h'.1
    have h3 := wpAny_of_seq (P := P) (Q' := Q) (l.drop n) n listed a' w' (fun j => by simp) h2 h'.2
    rwa [hdl] at h3) n (Array.replicate l.toArray.size false) a w.drew (h hS)
  rw [hsz] at key
  exact key
end
end Go.Proofs.YtfhnigfghfmolaaDoor
namespace Go.Proofs.YtfhnigfghfmolaaDoor
set_option maxRecDepth 100000
open Go.RowKit

theorem i64_infoM : (Tryd.prog.info? 3).map (fun i => (i.zero, i.size, i.bytes)) = some (some (.int .i64 0), 1, 8) := by kernel_rfl
theorem one_cell64M (xs : List Int) : ∀ u ∈ xs.map (Value.int .i64), u.oneCell' = true := fun u hu => by
  obtain ⟨x, _, rfl⟩ := List.mem_map.1 hu
  rfl
theorem step_apM {P : Program} {w : World} {ops : Array Oper} {o : Oper} {a : Act} {K : Act → World → Prop} {Q : Exit → Act → World → Prop} {E : Prop} (hgd : o.guard = none) (s x : Operand) (t : TypeId)
    (ho : o.op = .call { callee := .builtin .append, args := #[s, x], argTypes := #[t, t] })
    (base : Nat) (e : TypeId) (i : TypeInfo) (z : Value) (bytes : Nat) (ht : P.underlying t = some (.slice e)) (hi : P.info? e = some i) (hz : i.zero = some z)
    (hsize : i.size = 1) (hby : i.bytes = bytes) (hzs : z.cells.size = 1)
    (v : Value) (n : Nat) (xs : List Value) (hs : a.eval s = v) (hown : w.ownsRow base e 1 v n xs)
    (ad : Addr) (m c : Nat) (news : List Value) (hx : a.eval x = .slice (some ad) m c) (hr : Sl w (some ad) m news) (h1 : ∀ u ∈ news, u.oneCell' = true)
    (h63 : n + m ≤ maxLen) (hbytes : (n + m) * bytes ≤ 140737488355328) (hbase : base ≤ w.heap.size) (N : Nat) (L : List Value) (hN : n + m = N) (hL : xs ++ news = L)
    (h : ∀ A' cap' w', w'.ownsRow base e 1 (.slice A' N cap') N L → Below base w w' → w.grownBy w' v.ownBlock → ((Value.slice A' N cap').ownBlock = v.ownBlock ∨ (Value.slice A' N cap').ownBlock = some w.heap.size) → K (a.put o.dst (.slice A' N cap')) w') :
    if Region.wanted o (yielded ops a.tmps) = true then Oper.wp P o a w K Q else E := by
  subst hN hL
  have hw : Region.wanted o (yielded ops a.tmps) = true := by simp [Region.wanted, hgd]
  rw [if_pos hw]
  obtain ⟨_, _, _, _, _, _, hk⟩ := Sl.of_own hown
  have hcells : ∀ j u, news[j]? = some u → w.cell? (ad.add j) = some u := fun j u hu => by
    rcases Nat.eq_zero_or_pos m with h0 | h0
    · have hn : news = [] := List.eq_nil_of_length_eq_zero (hr.1.trans h0)
      subst hn
      simp at hu
    · obtain ⟨b, o', he, _, hc⟩ := hr.2 h0
      injection he with he
      subst he
      exact hc j u hu
  obtain ⟨v', w', hrun, h2, h3, _, h5⟩ := run_append_own_at (P := P) w base t o.type e i z 1 bytes ht hi hz hsize hby hzs (by omega) v n xs hown ad m c news (by rw [hr.1]; omega) hcells h1 h63 hbytes hbase
  have h4 := (Below.refl base w).grown h3 hbase hk
  obtain ⟨A', cap', rfl, hc1, hc2, hsl, _⟩ := Sl.of_own h2
  unfold Oper.wp execOp
  simp only [ho, resolve, invoke, builtin, Sem.run_bind, Sem.run_pure, Result.andThen_ok, List.map_toArray, List.map_cons, List.map_nil, hs, hx, hrun]
  exact h A' cap' w' h2 h4 h3 h5

theorem RnB.grown {w w' : World} {g : Nat} {cs : Array Value} {row : Option Nat} (h : RnB w g cs) (hg : w.grownBy w' row) (hne : row ≠ some g) : RnB w' g cs := (hg.block g h.lt (fun e => hne e.symm)).trans h
theorem grownBy_set (w : World) (g i : Nat) (v : Value) : w.grownBy (w.setCell ⟨g, i, none⟩ v) (some g) := ⟨rfl, rfl, rfl, by simp, fun k _ hne => Below.heap_setCell _ _ _ _ (fun e => hne (by rw [e]))⟩
theorem Fr.grown {g : Nat} {m o : Option Nat} {w w' : World} (hg : w.grownBy w' o) : Fr g m o w w' := ⟨hg.os, hg.tape, hg.output, hg.size, fun k hk _ _ h3 => hg.block k hk h3⟩

set_option maxRecDepth 20000 in
set_option maxHeartbeats 3200000 in
theorem call_ok (g : Nat) (op a b c m stk nx z : Int) (O : Value) (A : Option Addr) (n cap base : Nat) (xs : List Int) (cs : Array Value) (w : World) (hb : RnB w g cs) (hz : cs.size = 45) (hO : O = .slice A n cap) (ho : cs[17]? = some O) (hs : cs[1]? = some (.int .i64 stk)) (hx : cs[18]? = some (.int .i64 nx))
    (bf of lf cf k : Nat) (hF : cs[4]? = some (.slice (some ⟨bf, of, none⟩) lf cf)) (hlf : lf ≤ maxLen) (hbf : bf < base) (hbase : base ≤ w.heap.size) (hk : m = k) (hkl : k < lf) (hcell : w.cell? ⟨bf, of + k, none⟩ = some (.int .i64 z))
    (hown : w.ownsRow base 3 1 O n (xs.map (Value.int .i64))) (hn : n ≤ 1000) (h : (n : Int) < stk) (hgo : O.ownBlock ≠ some g) (hgb : base ≤ g) :
    Calls Tryd.prog 79 #[.pointer (some ⟨g, 0, none⟩), .agg #[.int .i64 op, .int .i64 a, .int .i64 b, .int .i64 c, .int .u64 m]] w fun e w' =>
      ∃ A' cap', e = .returned (.int .i64 0) ∧ RnB w' g ((cs.setIfInBounds 17 (.slice A' (n + 1) cap')).setIfInBounds 18 (.int .i64 z)) ∧ w'.ownsRow base 3 1 (.slice A' (n + 1) cap') (n + 1) ((xs ++ [nx]).map (Value.int .i64)) ∧
        Fr g none O.ownBlock w w' ∧ ((Value.slice A' (n + 1) cap').ownBlock = O.ownBlock ∨ ∃ k, (Value.slice A' (n + 1) cap').ownBlock = some k ∧ w.heap.size ≤ k) := by
  obtain ⟨i0, hi0, hz0, hz1, hz2⟩ := info_parts i64_infoM
  unfold maxLen at hlf
  have c0 := hb.cA ho
  have c1 := hb.cA hs
  have HX := Lib.hid hx
  have HF := Lib.hid hF
  have HO := Lib.hid hO
  have HB := Lib.hid hb
  have HOO := Lib.hid ho
  have HOW := Lib.hid hown
  have HBS := Lib.hid hbase
  have HGO := Lib.hid hgo
  have HC := Lib.hid hcell
  have HK := Lib.hid hk
  have hlen : (Builtin.lenOf O) = (Builtin.lenOf (.slice A n cap)) := by rw [hO]
  clear hb ho hs hx hF hown hbase hgo hcell hk hlen
  have hc0 : ∀ (o : Obj), (w.alloc o).cell? ⟨g, 17, none⟩ = some (.slice A n cap) := fun o => (c0 o).trans (by rw [hO])
  have C0 := Lib.hid c0
  clear c0 hO
  go_enter Tryd.func79, Tryd.ntmps79
  go_wp2
  go_quiet (fail)
  go_wp2_with fail
  generalize hW : (w.alloc (.cells #[.int .i64 op, .int .i64 a, .int .i64 b, .int .i64 c, .int .u64 m] 59)).drewN nq = w1
  have hB1 : Below w.heap.size w w1 := by rw [← hW]; exact below_drewN (Below.box _ _) _
  have hi4 : w1.cell? ⟨w.heap.size, 4, none⟩ = some (.int .u64 m) := by rw [← hW]; simp
  have hR1 : RnB w1 g cs := by rw [← hW]; exact (HB.out.box _).drewN nq
  have HW1 := Lib.hid hB1
  have HI4 := Lib.hid hi4
  have HR1 := Lib.hid hR1
  clear hW hc0 c1 hB1 hi4 hR1
  have s17 : w1.drew.cell? ⟨g, 17, none⟩ = some O := (HR1.out.drew.c 17).trans HOO.out
  have s18 : w1.drew.cell? ⟨g, 18, none⟩ = some (.int .i64 nx) := (HR1.out.drew.c 18).trans HX.out
  refine held_tail (S := fun W => W.cell? ⟨g, 17, none⟩ = some O ∧ W.cell? ⟨g, 18, none⟩ = some (.int .i64 nx)) 12 (by kernel_rfl) (by simp) ⟨s17, s18⟩ (fun hHeld => ?_)
  clear s17 s18
  refine headS_take (i := 0) (v := .pointer (some ⟨g, 0, none⟩)) rfl (by kernel_rfl) (fun _ _ _ h => h) (Or.inl ⟨by rfl, fun w9 hSw => ?_⟩) hHeld ?_
  · obtain ⟨hS1, hS2⟩ := hSw
    go_simp
  try simp only [List.getElem_toArray, List.getElem_cons_succ, List.getElem_cons_zero, Act.put, List.setIfInBounds_toArray, List.set_cons_zero, List.set_cons_succ]
  refine headS_take (i := 1) (v := .pointer (some ⟨g, 0, none⟩)) rfl (by kernel_rfl) (fun _ _ _ h => h) (Or.inl ⟨by rfl, fun w9 hSw => ?_⟩) hHeld ?_
  · obtain ⟨hS1, hS2⟩ := hSw
    go_simp
  try simp only [List.getElem_toArray, List.getElem_cons_succ, List.getElem_cons_zero, Act.put, List.setIfInBounds_toArray, List.set_cons_zero, List.set_cons_succ]
  refine headS_take (i := 2) (v := .pointer (some ⟨g, 0, none⟩)) rfl (by kernel_rfl) (fun _ _ _ h => h) (Or.inl ⟨by rfl, fun w9 hSw => ?_⟩) hHeld ?_
  · obtain ⟨hS1, hS2⟩ := hSw
    go_simp
  try simp only [List.getElem_toArray, List.getElem_cons_succ, List.getElem_cons_zero, Act.put, List.setIfInBounds_toArray, List.set_cons_zero, List.set_cons_succ]
  refine headS_take (i := 3) (v := .pointer (some ⟨g, 7, none⟩)) rfl (by kernel_rfl) (fun _ _ _ h => h) (Or.inl ⟨by rfl, fun w9 hSw => ?_⟩) hHeld ?_
  · obtain ⟨hS1, hS2⟩ := hSw
    go_simp
  try simp only [List.getElem_toArray, List.getElem_cons_succ, List.getElem_cons_zero, Act.put, List.setIfInBounds_toArray, List.set_cons_zero, List.set_cons_succ]
  refine headS_take (i := 4) (v := .pointer (some ⟨g, 17, none⟩)) rfl (by kernel_rfl) (fun _ _ _ h => h) (Or.inl ⟨by rfl, fun w9 hSw => ?_⟩) hHeld ?_
  · obtain ⟨hS1, hS2⟩ := hSw
    go_simp
  try simp only [List.getElem_toArray, List.getElem_cons_succ, List.getElem_cons_zero, Act.put, List.setIfInBounds_toArray, List.set_cons_zero, List.set_cons_succ]
  refine headS_take (i := 5) (v := O) rfl (by kernel_rfl) (fun _ _ _ h => h) (Or.inl ⟨by rfl, fun w9 hSw => ?_⟩) hHeld ?_
  · obtain ⟨hS1, hS2⟩ := hSw
    go_simp
  try simp only [List.getElem_toArray, List.getElem_cons_succ, List.getElem_cons_zero, Act.put, List.setIfInBounds_toArray, List.set_cons_zero, List.set_cons_succ]
  refine headS_take (i := 6) (v := .pointer (some ⟨g, 0, none⟩)) rfl (by kernel_rfl) (fun _ _ _ h => h) (Or.inl ⟨by rfl, fun w9 hSw => ?_⟩) hHeld ?_
  · obtain ⟨hS1, hS2⟩ := hSw
    go_simp
  try simp only [List.getElem_toArray, List.getElem_cons_succ, List.getElem_cons_zero, Act.put, List.setIfInBounds_toArray, List.set_cons_zero, List.set_cons_succ]
  refine headS_take (i := 7) (v := .pointer (some ⟨g, 0, none⟩)) rfl (by kernel_rfl) (fun _ _ _ h => h) (Or.inl ⟨by rfl, fun w9 hSw => ?_⟩) hHeld ?_
  · obtain ⟨hS1, hS2⟩ := hSw
    go_simp
  try simp only [List.getElem_toArray, List.getElem_cons_succ, List.getElem_cons_zero, Act.put, List.setIfInBounds_toArray, List.set_cons_zero, List.set_cons_succ]
  refine headS_take (i := 8) (v := .pointer (some ⟨g, 18, none⟩)) rfl (by kernel_rfl) (fun _ _ _ h => h) (Or.inl ⟨by rfl, fun w9 hSw => ?_⟩) hHeld ?_
  · obtain ⟨hS1, hS2⟩ := hSw
    go_simp
  try simp only [List.getElem_toArray, List.getElem_cons_succ, List.getElem_cons_zero, Act.put, List.setIfInBounds_toArray, List.set_cons_zero, List.set_cons_succ]
  refine headS_take (i := 9) (v := .int .i64 nx) rfl (by kernel_rfl) (fun _ _ _ h => h) (Or.inl ⟨by rfl, fun w9 hSw => ?_⟩) hHeld ?_
  · obtain ⟨hS1, hS2⟩ := hSw
    go_simp
  try simp only [List.getElem_toArray, List.getElem_cons_succ, List.getElem_cons_zero, Act.put, List.setIfInBounds_toArray, List.set_cons_zero, List.set_cons_succ]
  refine headS_ready (rs := [10]) (by kernel_rfl) (by simp) (by rfl) ?_
  refine AllS.cons rfl (fun K hK => ?_) AllS.nil
  go_simp
  have hRB := (HR1.out.box (.cells #[.int .i64 nx] 3)).drew
  refine hK.out _ _ ⟨(hRB.c 17).trans HOO.out, (hRB.c 18).trans HX.out⟩ (fun hHeld => ?_)
  clear hK K
  try simp only [List.getElem_toArray, List.getElem_cons_succ, List.getElem_cons_zero, Act.put, List.setIfInBounds_toArray, List.set_cons_zero, List.set_cons_succ]
  refine headS_ready (rs := [11]) (by kernel_rfl) (by simp) (by rfl) ?_
  refine AllS.cons rfl (fun K hK => ?_) AllS.nil
  have hown1 : (w1.alloc (.cells #[.int .i64 nx] 3)).drew.ownsRow base 3 1 O n (xs.map (Value.int .i64)) := ((own_below HOW.out HW1.out).alloc _).drew
  refine step_apM (w := (w1.alloc (.cells #[.int .i64 nx] 3)).drew) rfl (.tmp 22) (.tmp 27) 23 rfl base 3 i0 _ 8 Tryd.underlying23 hi0 hz0 hz1 hz2 rfl O n _ rfl hown1 ⟨w1.heap.size, 0, none⟩ 1 1 [.int .i64 nx] rfl (Sl.new w1 [.int .i64 nx] 3) (one_cell64M [nx]) (by simp only [maxLen]; omega) (by omega) (by have h1 := HW1.out.size; have h2 := HBS.out; simp; omega) (n + 1) ((xs ++ [nx]).map (Value.int .i64)) rfl (by simp) ?_
  intro A' cap' w3 hown3 hb3 hg3 hor3
  have hR3 : RnB w3 g cs := hRB.grown hg3 HGO.out
  refine hK.out _ _ ⟨(hR3.c 17).trans HOO.out, (hR3.c 18).trans HX.out⟩ (fun hHeld => ?_)
  clear hK K
  try simp only [List.getElem_toArray, List.getElem_cons_succ, List.getElem_cons_zero, Act.put, List.setIfInBounds_toArray, List.set_cons_zero, List.set_cons_succ]
  refine ⟨by kernel_rfl, ?_⟩
  simp only [List.drop_succ_cons, List.drop_zero]
  have f17 := Joins.unfrozen_of_block hR3 17
  have hR4 := hR3.set (i := 17) (.slice A' (n + 1) cap')
  have hB3 : Below base w w3 := (HW1.out.mono HBS.out).trans ((((Below.refl _ _).alloc (Nat.le_trans HBS.out HW1.out.size) _).drew).trans hb3)
  have hgh : g < w.heap.size := HB.out.lt
  have hib : w3.cell? ⟨w.heap.size, 4, none⟩ = some (.int .u64 m) := (World.cell?_of_block (hg3.block w.heap.size (by have h1 := World.block_lt_of_cell? _ _ HI4.out; simp at h1 ⊢; omega) (fun e => by have h1 := (HOW.out.lt _ e.symm).2; omega))).trans (((Below.box w1 _).cell (p := ⟨w.heap.size, 4, none⟩) (World.block_lt_of_cell? _ _ HI4.out)).trans HI4.out)
  have hzc : w3.cell? ⟨bf, of + k, none⟩ = some (.int .i64 z) := (hB3.cell (p := ⟨bf, of + k, none⟩) hbf).trans HC.out
  have hown4 : (w3.setCell ⟨g, 17, none⟩ (.slice A' (n + 1) cap')).ownsRow base 3 1 (.slice A' (n + 1) cap') (n + 1) ((xs ++ [nx]).map (Value.int .i64)) := by
    refine hown3.kept (row := some g) ⟨rfl, rfl, rfl, by simp, fun k hk hne => Below.heap_setCell _ _ _ _ (fun e => hne (by rw [e]))⟩ ?_
    right
    intro e
    rcases hor3 with h1 | h1
    · rw [h1] at e; exact HGO.out e
    · rw [h1] at e; injection e with e; have := HW1.out.size; simp at e; omega
  have hne4 : (Value.slice A' (n + 1) cap').ownBlock = none ∨ (Value.slice A' (n + 1) cap').ownBlock ≠ some g := by
    right
    intro e
    rcases hor3 with h1 | h1
    · rw [h1] at e; exact HGO.out e
    · rw [h1] at e; injection e with e; have := HW1.out.size; simp at e; omega
  have k4 : (w3.setCell ⟨g, 17, none⟩ (.slice A' (n + 1) cap')).cell? ⟨w.heap.size, 4, none⟩ = some (.int .u64 m) := (World.cell?_of_block (Below.heap_setCell _ _ _ _ (by simp; omega))).trans hib
  have kz : (w3.setCell ⟨g, 17, none⟩ (.slice A' (n + 1) cap')).cell? ⟨bf, of + k, none⟩ = some (.int .i64 z) := (World.cell?_of_block (Below.heap_setCell _ _ _ _ (by simp; omega))).trans hzc
  have kF : (w3.setCell ⟨g, 17, none⟩ (.slice A' (n + 1) cap')).cell? ⟨g, 4, none⟩ = some (.slice (some ⟨bf, of, none⟩) lf cf) := (hR4.c 4).trans (by rw [Array.getElem?_setIfInBounds_ne (by decide)]; exact HF.out)
  have hFr : Fr g none O.ownBlock w (w3.setCell ⟨g, 17, none⟩ (.slice A' (n + 1) cap')) := ((Fr.of_below (HW1.out)).trans (((Fr.box w1 (.cells #[.int .i64 nx] 3)).drew).trans (Fr.grown hg3))).trans (Fr.set _ _ _)
  have hor4 : ((Value.slice A' (n + 1) cap').ownBlock = O.ownBlock ∨ ∃ k, (Value.slice A' (n + 1) cap').ownBlock = some k ∧ w.heap.size ≤ k) := hor3.imp_right fun h1 => ⟨_, h1, by have := HW1.out.size; simp; omega⟩
  have hsv : ∃ v, cs[17]? = some v := RnB.ex hz (by decide)
  have c17 := (hR3.c 17).trans HOO.out
  have HR4 := Lib.hid hR4
  have HF4 := Lib.hid hFr
  have HO4 := Lib.hid hor4
  have HOW4 := Lib.hid hown4
  clear hHeld hor4 hFr hR4 hR3 hRB hown1 hown3 hb3 hg3 hor3 hB3 hib hzc hsv hown4
  go_wp2_with fail
  generalize w3.setCell ⟨g, 17, none⟩ (.slice A' (n + 1) cap') = w4 at *
  obtain ⟨v18, hv18⟩ := RnB.ex (cs := cs.setIfInBounds 17 (.slice A' (n + 1) cap')) (by simp [hz]) (i := 18) (by decide)
  have c18 : w4.drew.cell? ⟨g, 18, none⟩ = some v18 := (HR4.out.c 18).trans hv18
  have f18 : w4.drew.frozen? ⟨g, 18, none⟩ = false := Joins.unfrozen_of_block HR4.out 18
  have hkn : (k : Int) < lf := by omega
  have hkm := HK.out
  subst hkm
  clear f17 c17 hv18
  refine still_tail 10 (by kernel_rfl) (by kernel_rfl) ?_
  simp only [List.take_succ_cons, List.take_zero, List.drop_succ_cons, List.drop_zero]
  repeat still_step
  refine wpStill_nil ?_
  go_wp2
  go_ret
  exact ⟨rfl, A', cap', HR4.out.drew.set _, by simpa using (HOW4.out.kept (grownBy_set _ g 18 (.int .i64 z)) hne4).drew, HF4.out.trans ((Fr.refl _ _ _ _).drew.trans (Fr.set _ _ _)), HO4.out⟩
end Go.Proofs.YtfhnigfghfmolaaDoor
namespace Go.Proofs.YtfhnigfghfmolaaDoor
set_option maxRecDepth 100000
open Go.RowKit

theorem or_add (x z : Int) (j : Nat) (hj : j < 8) (x0 : 0 ≤ x) (x1 : x < 256 ^ j) (z0 : 0 ≤ z) (z1 : z ≤ 255) :
    bits BinOp.or IntKind.u64 x (IntKind.u64.wrap (IntKind.u64.wrap z * 2 ^ (8 * j))) = x + z * 256 ^ j := by
  obtain ⟨a, rfl⟩ := Int.eq_ofNat_of_zero_le x0
  obtain ⟨b, rfl⟩ := Int.eq_ofNat_of_zero_le z0
  have hb : b ≤ 255 := by omega
  have e1 : IntKind.u64.wrap (b : Int) = b := by rw [IntKind.wrap_u64]; omega
  have hp : (2 : Nat) ^ (8 * j) = 256 ^ j := by rw [Nat.pow_mul]
  have h256 : 256 ^ j ≤ 256 ^ 7 := Nat.pow_le_pow_right (by decide) (by omega)
  have ha : a < 256 ^ j := by exact_mod_cast x1
  have hm : b * 256 ^ j < 256 ^ 8 := by
    calc b * 256 ^ j ≤ 255 * 256 ^ 7 := Nat.mul_le_mul hb h256
      _ < 256 ^ 8 := by decide
  have e2 : IntKind.u64.wrap ((b : Int) * 2 ^ (8 * j)) = ((b * 256 ^ j : Nat) : Int) := by
    rw [IntKind.wrap_u64]
    have : ((b : Int) * 2 ^ (8 * j)) = ((b * 256 ^ j : Nat) : Int) := by rw [← hp]; push_cast; rfl
    rw [this]
    omega
  rw [e1, e2, bits_or_u64_nat _ _ (by omega) (by omega)]
  have h3 : a ||| b * 256 ^ j = b * 256 ^ j + a := by
    have := Nat.shiftLeft_add_eq_or_of_lt (b := a) (i := 8 * j) (by rw [hp]; exact ha) b
    rw [Nat.shiftLeft_eq, hp] at this
    rw [this, Nat.or_comm]
  rw [h3]
  push_cast
  omega

set_option maxRecDepth 20000 in
set_option maxHeartbeats 1600000 in
theorem load_clo (g X R mb cap n : Nat) (k j : Nat) (x z : Int) (w : World) (cx : w.cell? ⟨X, 0, none⟩ = some (.int .u64 x)) (cr : w.cell? ⟨R, 0, none⟩ = some (.pointer (some ⟨g, 0, none⟩)))
    (cm : w.cell? ⟨g, 16, none⟩ = some (.slice (some ⟨mb, 0, none⟩) n cap)) (hk : k < n) (hn : n ≤ maxLen) (cz : w.cell? ⟨mb, k, none⟩ = some (.int .u8 z)) (fx : w.frozen? ⟨X, 0, none⟩ = false) (hj : j < 8) (x0 : 0 ≤ x) (x1 : x < 256 ^ j) (z0 : 0 ≤ z) (z1 : z ≤ 255) :
    Calls Tryd.prog 92 #[.int .u64 k, .int .i64 (8 * j), .pointer (some ⟨X, 0, none⟩), .pointer (some ⟨R, 0, none⟩)] w fun e w' => e = .returned (.tuple #[]) ∧ w' = (w.setCell ⟨X, 0, none⟩ (.int .u64 (x + z * 256 ^ j))).drew := by
  unfold maxLen at hn
  have hk' : (k : Int) < n := by omega
  have hj' : ¬ (8 * (j : Int)) < 0 := by omega
  have ho := Lib.hid (or_add x z j hj x0 x1 z0 z1)
  clear x0 x1 z0 z1
  go_enter Tryd.func92, Tryd.ntmps92
  go_wp2
  refine still_tail 13 (by kernel_rfl) (by kernel_rfl) ?_
  simp only [List.take_succ_cons, List.take_zero, List.drop_succ_cons, List.drop_zero]
  repeat still_step
  refine wpStill_nil ?_
  go_wp2
  go_end0
  exact ⟨rfl, by rw [ho.out]⟩

set_option maxRecDepth 20000 in
set_option maxHeartbeats 1600000 in
theorem save_clo (g X R mb cap n : Nat) (k j : Nat) (x z : Int) (w : World) (cx : w.cell? ⟨X, 0, none⟩ = some (.int .u64 x)) (cr : w.cell? ⟨R, 0, none⟩ = some (.pointer (some ⟨g, 0, none⟩)))
    (cm : w.cell? ⟨g, 16, none⟩ = some (.slice (some ⟨mb, 0, none⟩) n cap)) (hk : k < n) (hn : n ≤ maxLen) (cz : w.cell? ⟨mb, k, none⟩ = some (.int .u8 z)) (fx : w.frozen? ⟨mb, k, none⟩ = false) (hj : j < 8) (x0 : 0 ≤ x) (x1 : x < 18446744073709551616) :
    Calls Tryd.prog 93 #[.int .u64 k, .int .i64 (8 * j), .pointer (some ⟨X, 0, none⟩), .pointer (some ⟨R, 0, none⟩)] w fun e w' => e = .returned (.tuple #[]) ∧ w' = (w.setCell ⟨mb, k, none⟩ (.int .u8 (x / 256 ^ j % 256))).drew := by
  unfold maxLen at hn
  have hk' : (k : Int) < n := by omega
  have hj' : ¬ (8 * (j : Int)) < 0 := by omega
  have hp : (2 : Int) ^ (8 * j) = 256 ^ j := by rw [Int.pow_mul]; rfl
  have HP := Lib.hid hp
  clear x0 x1 hp
  go_enter Tryd.func93, Tryd.ntmps93
  go_wp2
  refine still_tail 11 (by kernel_rfl) (by kernel_rfl) ?_
  simp only [List.take_succ_cons, List.take_zero, List.drop_succ_cons, List.drop_zero]
  repeat still_step
  refine wpStill_nil ?_
  go_wp2
  go_end0
  exact ⟨rfl, by rw [HP.out]⟩

set_option maxRecDepth 20000 in
set_option maxHeartbeats 3200000 in
theorem through_out (g b : Nat) (op a c m x : Int) (V : Value) (cs : Array Value) (w : World) (A : Option Addr) (n cap : Nat) (hb : RnB w g cs) (hl : b < 8) (hx : cs[8 + b]? = some (.int .u64 x)) (hm : cs[16]? = some (.slice A n cap)) (hn : n ≤ maxLen) (c0 : 0 ≤ c) (c1 : c ≤ 8) (h : ¬ (x + m) % 18446744073709551616 + c ≤ n) :
    Calls Tryd.prog 91 #[.pointer (some ⟨g, 0, none⟩), .agg #[.int .i64 op, .int .i64 a, .int .i64 b, .int .i64 c, .int .u64 m], V] w fun e w' => e = .returned (.bool false) ∧ Below w.heap.size w w' := by
  unfold maxLen at hn
  have e1 : IntKind.u64.wrap (n : Int) = n := by rw [IntKind.wrap_u64]; omega
  have e2 : IntKind.u64.wrap (x + m) = (x + m) % 18446744073709551616 := IntKind.wrap_u64 _
  have e3 : IntKind.u64.wrap c = c := by rw [IntKind.wrap_u64]; omega
  have E2 := Lib.hid e2
  clear e2
  have hf1 : (w.alloc (.cells #[.int .i64 op, .int .i64 a, .int .i64 b, .int .i64 c, .int .u64 m] 59)).cell? ⟨w.heap.size, 0, none⟩ = some (.int .i64 op) ∧ (w.alloc (.cells #[.int .i64 op, .int .i64 a, .int .i64 b, .int .i64 c, .int .u64 m] 59)).cell? ⟨w.heap.size, 1, none⟩ = some (.int .i64 a) ∧ (w.alloc (.cells #[.int .i64 op, .int .i64 a, .int .i64 b, .int .i64 c, .int .u64 m] 59)).cell? ⟨w.heap.size, 2, none⟩ = some (.int .i64 b) ∧ (w.alloc (.cells #[.int .i64 op, .int .i64 a, .int .i64 b, .int .i64 c, .int .u64 m] 59)).cell? ⟨w.heap.size, 3, none⟩ = some (.int .i64 c) ∧ (w.alloc (.cells #[.int .i64 op, .int .i64 a, .int .i64 b, .int .i64 c, .int .u64 m] 59)).cell? ⟨w.heap.size, 4, none⟩ = some (.int .u64 m) := by simp
  have h16 : (w.alloc (.cells #[.int .i64 op, .int .i64 a, .int .i64 b, .int .i64 c, .int .u64 m] 59)).cell? ⟨g, 16, none⟩ = some (.slice A n cap) := hb.cA hm _
  have hR : RnB (w.alloc (.cells #[.int .i64 op, .int .i64 a, .int .i64 b, .int .i64 c, .int .u64 m] 59)) g cs := hb.box _
  have hB : Below w.heap.size w (w.alloc (.cells #[.int .i64 op, .int .i64 a, .int .i64 b, .int .i64 c, .int .u64 m] 59)) := Below.box _ _
  have hz : (w.alloc (.cells #[.int .i64 op, .int .i64 a, .int .i64 b, .int .i64 c, .int .u64 m] 59)).heap.size = w.heap.size + 1 := by simp
  have hg : g < (w.alloc (.cells #[.int .i64 op, .int .i64 a, .int .i64 b, .int .i64 c, .int .u64 m] 59)).heap.size := hR.lt
  have HF := Lib.hid hf1
  have H16 := Lib.hid h16
  have HR := Lib.hid hR
  have HB := Lib.hid hB
  have HZ := Lib.hid hz
  have HG := Lib.hid hg
  have HX := Lib.hid hx
  clear hf1 h16 hR hB hz hg hb hm hx
  go_enter Tryd.func91, Tryd.ntmps91
  go_wp2_with fail
  generalize w.alloc (.cells #[.int .i64 op, .int .i64 a, .int .i64 b, .int .i64 c, .int .u64 m] 59) = w1 at *
  refine wp_region_held_drew (S := fun W => Below w1.heap.size w1 W) (by kernel_rfl) (Below.refl _ _).drew (fun hHeld => ?_)
  refine wpAnyH_take (i := 0) (v := .pointer (some ⟨g, 0, none⟩)) rfl (by kernel_rfl) (by kernel_rfl) (by kernel_rfl) (fun _ _ _ h => h) (Or.inl ⟨by rfl, fun w9 hSw => ?_⟩) hHeld ?_
  · (try dsimp only at hSw)
    go_simp
  try simp only [List.getElem_toArray, List.getElem_cons_succ, List.getElem_cons_zero, Act.put, List.setIfInBounds_toArray, List.set_cons_zero, List.set_cons_succ]
  refine wpAnyH_take (i := 1) (v := .agg #[.int .i64 op, .int .i64 a, .int .i64 b, .int .i64 c, .int .u64 m]) rfl (by kernel_rfl) (by kernel_rfl) (by kernel_rfl) (fun _ _ _ h => h) (Or.inl ⟨by rfl, fun w9 hSw => ?_⟩) hHeld ?_
  · (try dsimp only at hSw)
    have q0 := cells_below hSw HF.out.1 (by simp [HZ.out])
    have q1 := cells_below hSw HF.out.2.1 (by simp [HZ.out])
    have q2 := cells_below hSw HF.out.2.2.1 (by simp [HZ.out])
    have q3 := cells_below hSw HF.out.2.2.2.1 (by simp [HZ.out])
    have q4 := cells_below hSw HF.out.2.2.2.2 (by simp [HZ.out])
    go_simp
  try simp only [List.getElem_toArray, List.getElem_cons_succ, List.getElem_cons_zero, Act.put, List.setIfInBounds_toArray, List.set_cons_zero, List.set_cons_succ]
  refine wpAnyH_take (i := 3) (v := .pointer (some ⟨g, 0, none⟩)) rfl (by kernel_rfl) (by kernel_rfl) (by kernel_rfl) (fun _ _ _ h => h) (Or.inl ⟨by rfl, fun w9 hSw => ?_⟩) hHeld ?_
  · (try dsimp only at hSw)
    go_simp
  try simp only [List.getElem_toArray, List.getElem_cons_succ, List.getElem_cons_zero, Act.put, List.setIfInBounds_toArray, List.set_cons_zero, List.set_cons_succ]
  refine wpAnyH_take (i := 4) (v := .pointer (some ⟨g, 0, none⟩)) rfl (by kernel_rfl) (by kernel_rfl) (by kernel_rfl) (fun _ _ _ h => h) (Or.inl ⟨by rfl, fun w9 hSw => ?_⟩) hHeld ?_
  · (try dsimp only at hSw)
    go_simp
  try simp only [List.getElem_toArray, List.getElem_cons_succ, List.getElem_cons_zero, Act.put, List.setIfInBounds_toArray, List.set_cons_zero, List.set_cons_succ]
  refine wpAnyH_take (i := 5) (v := .pointer (some ⟨g, 7, none⟩)) rfl (by kernel_rfl) (by kernel_rfl) (by kernel_rfl) (fun _ _ _ h => h) (Or.inl ⟨by rfl, fun w9 hSw => ?_⟩) hHeld ?_
  · (try dsimp only at hSw)
    go_simp
  try simp only [List.getElem_toArray, List.getElem_cons_succ, List.getElem_cons_zero, Act.put, List.setIfInBounds_toArray, List.set_cons_zero, List.set_cons_succ]
  refine wpAnyH_take (i := 6) (v := .pointer (some ⟨g, 16, none⟩)) rfl (by kernel_rfl) (by kernel_rfl) (by kernel_rfl) (fun _ _ _ h => h) (Or.inl ⟨by rfl, fun w9 hSw => ?_⟩) hHeld ?_
  · (try dsimp only at hSw)
    go_simp
  try simp only [List.getElem_toArray, List.getElem_cons_succ, List.getElem_cons_zero, Act.put, List.setIfInBounds_toArray, List.set_cons_zero, List.set_cons_succ]
  refine wpAnyH_take (i := 7) (v := .slice A n cap) rfl (by kernel_rfl) (by kernel_rfl) (by kernel_rfl) (fun _ _ _ h => h) (Or.inl ⟨by rfl, fun w9 hSw => ?_⟩) hHeld ?_
  · (try dsimp only at hSw)
    have q16 := cells_below hSw H16.out HG.out
    go_simp
  try simp only [List.getElem_toArray, List.getElem_cons_succ, List.getElem_cons_zero, Act.put, List.setIfInBounds_toArray, List.set_cons_zero, List.set_cons_succ]
  refine wpAnyH_take (i := 8) (v := .int .i64 n) rfl (by kernel_rfl) (by kernel_rfl) (by kernel_rfl) (fun _ _ _ h => h) (Or.inl ⟨by rfl, fun w9 hSw => ?_⟩) hHeld ?_
  · (try dsimp only at hSw)
    go_simp
  try simp only [List.getElem_toArray, List.getElem_cons_succ, List.getElem_cons_zero, Act.put, List.setIfInBounds_toArray, List.set_cons_zero, List.set_cons_succ]
  refine wpAnyH_take (i := 9) (v := .int .u64 n) rfl (by kernel_rfl) (by kernel_rfl) (by kernel_rfl) (fun _ _ _ h => h) (Or.inl ⟨by rfl, fun w9 hSw => ?_⟩) hHeld ?_
  · (try dsimp only at hSw)
    go_simp
  try simp only [List.getElem_toArray, List.getElem_cons_succ, List.getElem_cons_zero, Act.put, List.setIfInBounds_toArray, List.set_cons_zero, List.set_cons_succ]
  refine wpAnyH_ready (rs := [2]) (by kernel_rfl) (by simp) ?_
  refine (AllReadyH.cons rfl (fun K hK => ?_) AllReadyH.nil)
  go_simp
  go_at_call 94
  refine (address_any g b op a c m x cs _ HR.out.drew HX.out hl).mono ?_
  rintro e v ⟨rfl, hbv⟩
  refine hK.out _ _ ((Below.refl _ _).drew.trans hbv) (fun hHeld => ?_)
  clear hK K
  try simp only [List.getElem_toArray, List.getElem_cons_succ, List.getElem_cons_zero, Act.put, List.setIfInBounds_toArray, List.set_cons_zero, List.set_cons_succ]
  refine wpAnyH_take (i := 10) (v := .int .u64 (IntKind.u64.wrap (x + m))) rfl (by kernel_rfl) (by kernel_rfl) (by kernel_rfl) (fun _ _ _ h => h) (Or.inl ⟨by rfl, fun w9 hSw => ?_⟩) hHeld ?_
  · (try dsimp only at hSw)
    go_simp
  try simp only [List.getElem_toArray, List.getElem_cons_succ, List.getElem_cons_zero, Act.put, List.setIfInBounds_toArray, List.set_cons_zero, List.set_cons_succ]
  refine wpAnyH_take (i := 11) (v := .int .u64 n) rfl (by kernel_rfl) (by kernel_rfl) (by kernel_rfl) (fun _ _ _ h => h) (Or.inl ⟨by rfl, fun w9 hSw => ?_⟩) hHeld ?_
  · (try dsimp only at hSw)
    go_simp
  try simp only [List.getElem_toArray, List.getElem_cons_succ, List.getElem_cons_zero, Act.put, List.setIfInBounds_toArray, List.set_cons_zero, List.set_cons_succ]
  refine wpAnyH_done (by kernel_rfl) ?_ _
  rw [E2.out]
  have hy0 : 0 ≤ (x + m) % 18446744073709551616 := by omega
  have hy1 : (x + m) % 18446744073709551616 < 18446744073709551616 := by omega
  have hbv' : Below w1.heap.size w1 v := hHeld
  have q3 := cells_below hbv' HF.out.2.2.2.1 (by simp [HZ.out])
  have HH := Lib.hid hbv'
  clear hHeld hbv' hbv
  generalize (x + m) % 18446744073709551616 = y at *
  by_cases hgt : (n : Int) < y
  · go_wp2
    go_ret
    exact ⟨rfl, HB.out.trans (HH.out.mono (by simp [HZ.out]))⟩
  · have e4 : IntKind.u64.wrap ((n : Int) - y) = n - y := by rw [IntKind.wrap_u64]; omega
    have hlt : (n : Int) - y < c := by omega
    go_wp2
    go_ret
    exact ⟨rfl, HB.out.trans (HH.out.mono (by simp [HZ.out]))⟩
end Go.Proofs.YtfhnigfghfmolaaDoor
namespace Go.Proofs.YtfhnigfghfmolaaDoor
set_option maxRecDepth 100000
namespace Mc

structure St where
  pl : Int
  rg : List Int
  mm : List Int
  op : List Int
def rv (s : St) (k : Int) : Int := s.rg.getD k.toNat 0
/-- The address that an instruction names. -/
def ad (s : St) (i : Im.I5) : Int := (rv s i.b + i.m) % 18446744073709551616
/-- A number, its lowest byte first; and a number's bytes. -/
def le : List Int → Int
  | [] => 0
  | b :: r => b + 256 * le r
def bys : Nat → Int → List Int
  | 0, _ => []
  | n + 1, x => x % 256 :: bys n (x / 256)
def there (s : St) (i : Im.I5) : Bool := decide (ad s i + i.c ≤ s.mm.length)
def lod (s : St) (i : Im.I5) : Int := le ((s.mm.drop (ad s i).toNat).take i.c.toNat)
def sav (mm : List Int) (k n : Nat) (x : Int) : List Int := mm.take k ++ bys n x ++ mm.drop (k + n)
def wr (s : St) (i : Im.I5) (x : Int) : St := { s with rg := s.rg.set i.a.toNat x }

/-- What an instruction does: the state, the place that is next, how it ends the run. -/
def act (p : Im.Pic) (inp : List Int) (i : Im.I5) (s : St) (nx : Int) : St × Int × Int :=
  if i.op = 0 then (s, nx, 1)
  else if i.op = 1 then (wr s i i.m, nx, 0)
  else if i.op = 2 then (wr s i (rv s i.b), nx, 0)
  else if i.op = 17 then (if there s i = true then (wr s i (lod s i), nx, 0) else (s, nx, 2))
  else if i.op = 18 then (if there s i = true then ({ s with mm := sav s.mm (ad s i).toNat i.c.toNat (rv s i.a) }, nx, 0) else (s, nx, 2))
  else if i.op = 19 then (if ad s i < inp.length then (wr s i (inp.getD (ad s i).toNat 0), nx, 0) else (s, nx, 5))
  else if i.op = 20 then (wr s i inp.length, nx, 0)
  else if i.op = 21 then (s, i.m, 0)
  else if i.op = 22 then (if rv s i.a = 0 then (s, nx, 0) else (s, i.m, 0))
  else if i.op = 23 then (if (s.op.length : Int) < p.stk then ({ s with op := s.op ++ [nx] }, p.fs.getD i.m.toNat 0, 0) else (s, nx, 4))
  else if i.op = 24 then (if s.op = [] then (s, nx, 1) else ({ s with op := s.op.dropLast }, s.op.getLastD 0, 0))
  else if i.op = 25 then (s, nx, 6)
  else if (i.op = 6 ∨ i.op = 7) ∧ rv s i.c = 0 then (s, nx, 3)
  else (wr s i (Wd.app (i.op + 5) 64 (rv s i.b) (rv s i.c)), nx, 0)

def ins (p : Im.Pic) (s : St) : Im.I5 := p.cs.getD s.pl.toNat Im.z5
def step (p : Im.Pic) (inp : List Int) (s : St) : St × Int :=
  if (act p inp (ins p s) s (s.pl + 1)).2.2 = 0 then ({ (act p inp (ins p s) s (s.pl + 1)).1 with pl := (act p inp (ins p s) s (s.pl + 1)).2.1 }, 0)
  else (s, (act p inp (ins p s) s (s.pl + 1)).2.2)
def start (p : Im.Pic) : St := ⟨0, List.replicate 8 0, p.ds ++ List.replicate (p.mem.toNat - p.ds.length) 0, []⟩
/-- So many steps from a state on: the path (behind what it was), the state, how it ended. -/
def go (p : Im.Pic) (inp : List Int) : Nat → St → List Int → List Int × St × Int
  | 0, s, path => (path, s, 0)
  | n + 1, s, path => if (step p inp s).2 = 0 then go p inp n (step p inp s).1 (path ++ [(step p inp s).1.pl]) else (path, s, (step p inp s).2)
def most (steps : Int) : Nat := (min steps 4096).toNat
def run (p : Im.Pic) (inp : List Int) (steps : Int) : List Int × St × Int := go p inp (most steps) (start p) [0]

/-! ### What states have -/
/-- An image that is right. -/
def R (p : Im.Pic) : Prop := Im.chk p = 0
theorem R.cnt {p : Im.Pic} (h : R p) : Im.Cnt p := by
  unfold R Im.chk at h
  split at h
  · assumption
  · cases h
theorem R.bad {p : Im.Pic} (h : R p) : ∀ j, j < p.cs.length → Im.bad5 (p.cs.getD j Im.z5) = -1 := by
  have hc := h.cnt
  unfold R Im.chk at h
  rw [if_pos hc] at h
  split at h
  · rename_i h1; exact Im.firstE_zero _ h1
  · rename_i h1; exact absurd h h1
theorem R.ok {p : Im.Pic} (h : R p) : ∀ j, j < p.cs.length → Im.okB p.fs p.cs j = true := by
  have hc := h.cnt
  unfold R Im.chk at h
  rw [if_pos hc] at h
  split at h
  · split at h
    · cases h
    · rename_i h1; exact Im.stray_ok h1
  · rename_i h1; exact absurd h h1

structure Ok (p : Im.Pic) (s : St) : Prop where
  p0 : 0 ≤ s.pl
  p1 : s.pl < p.cs.length
  rl : s.rg.length = 8
  rr : ∀ x ∈ s.rg, 0 ≤ x ∧ x < 18446744073709551616
  mb : Cd.isB s.mm
  ml : (s.mm.length : Int) = p.mem
  ol : (s.op.length : Int) ≤ p.stk
  oo : ∀ x ∈ s.op, 0 ≤ x ∧ x < p.cs.length
theorem rv_rng {s : St} (h : ∀ x ∈ s.rg, 0 ≤ x ∧ x < 18446744073709551616) (k : Int) : 0 ≤ rv s k ∧ rv s k < 18446744073709551616 := by
  unfold rv
  rw [List.getD_eq_getElem?_getD]
  rcases Nat.lt_or_ge k.toNat s.rg.length with h1 | h1
  · rw [List.getElem?_eq_getElem h1]; exact h _ (List.getElem_mem h1)
  · rw [List.getElem?_eq_none h1]; exact ⟨by decide, by decide⟩
theorem le_rng : ∀ (l : List Int), (∀ x ∈ l, 0 ≤ x ∧ x ≤ 255) → 0 ≤ le l ∧ le l < 256 ^ l.length
  | [], _ => ⟨Int.le_refl _, by simp [le]⟩
  | b :: r, h => by
    have h1 := h b (by simp)
    obtain ⟨h2, h3⟩ := le_rng r fun x hx => h x (by simp [hx])
    simp only [le, List.length_cons, Int.pow_succ]
    constructor
    · omega
    · omega
theorem bys_len : ∀ (n : Nat) (x : Int), (bys n x).length = n
  | 0, _ => rfl
  | n + 1, x => by simp [bys, bys_len n]
theorem bys_rng : ∀ (n : Nat) (x : Int), ∀ y ∈ bys n x, 0 ≤ y ∧ y ≤ 255
  | 0, _, y, h => by simp [bys] at h
  | n + 1, x, y, h => by
    rcases List.mem_cons.1 h with rfl | h
    · omega
    · exact bys_rng n _ y h
theorem sav_len {mm : List Int} {k n : Nat} {x : Int} (h : k + n ≤ mm.length) : (sav mm k n x).length = mm.length := by
  simp [sav, bys_len]; omega
theorem isB_mem {l : List Int} (h : Cd.isB l) {x : Int} (hx : x ∈ l) : 0 ≤ x ∧ x ≤ 255 := Im.mem_isB h hx
theorem sav_isB {mm : List Int} {k n : Nat} {x : Int} (h : Cd.isB mm) : Cd.isB (sav mm k n x) := by
  refine isB_of fun y hy => ?_
  simp only [sav, List.mem_append] at hy
  rcases hy with (hy | hy) | hy
  · exact isB_mem h (List.mem_of_mem_take hy)
  · exact bys_rng _ _ _ hy
  · exact isB_mem h (List.mem_of_mem_drop hy)
theorem set_mem {l : List Int} {k : Nat} {v x : Int} (h : x ∈ l.set k v) : x ∈ l ∨ x = v := List.mem_or_eq_of_mem_set h
end Mc
end Go.Proofs.YtfhnigfghfmolaaDoor
namespace Go.Proofs.YtfhnigfghfmolaaDoor
set_option maxRecDepth 100000
open Go.RowKit

namespace Mc
theorem le_take : ∀ (l : List Int) (q : Nat), q < l.length → le (l.take (q + 1)) = le (l.take q) + l.getD q 0 * 256 ^ q
  | [], q, h => absurd h (by simp)
  | b :: r, 0, _ => by simp [le]
  | b :: r, q + 1, h => by
    rw [List.take_succ_cons, List.take_succ_cons, List.getD_cons_succ]
    simp only [le]
    rw [le_take r q (by simpa using h), Int.pow_succ, Int.mul_add]
    have : 256 * (r.getD q 0 * 256 ^ q) = r.getD q 0 * (256 ^ q * 256) := by rw [← Int.mul_assoc, Int.mul_comm 256, Int.mul_assoc, Int.mul_comm 256]
    omega
end Mc
theorem wrap_u64_small {x : Int} (h0 : 0 ≤ x) (h1 : x < 18446744073709551616) : IntKind.u64.wrap x = x := by rw [IntKind.wrap_u64]; omega
abbrev LdV (X R : Nat) : Value := .func (.func 92) #[] #[.pointer (some ⟨X, 0, none⟩), .pointer (some ⟨R, 0, none⟩)]

set_option maxRecDepth 20000 in
set_option maxHeartbeats 3200000 in
theorem through_load (g b X R mb k cn : Nat) (op a c m x : Int) (zs : List Int) (cs : Array Value) (w : World) (n cap : Nat) (hb : RnB w g cs) (hl : b < 8) (hx : cs[8 + b]? = some (.int .u64 x)) (hm : cs[16]? = some (.slice (some ⟨mb, 0, none⟩) n cap)) (hn : n ≤ maxLen) (hc : c = cn) (c1 : cn ≤ 8)
    (hk : (x + m) % 18446744073709551616 = k) (h : k + cn ≤ n) (hzl : zs.length = cn) (hz : ∀ q, q < cn → w.cell? ⟨mb, k + q, none⟩ = some (.int .u8 (zs.getD q 0))) (hzr : ∀ z ∈ zs, 0 ≤ z ∧ z ≤ 255)
    (hX : w.heap[X]? = some (.cells #[.int .u64 0] 29 (0, 0))) (hR : w.cell? ⟨R, 0, none⟩ = some (.pointer (some ⟨g, 0, none⟩))) (hXg : X ≠ g) (hXm : X ≠ mb) (hXR : X ≠ R) :
    Calls Tryd.prog 91 #[.pointer (some ⟨g, 0, none⟩), .agg #[.int .i64 op, .int .i64 a, .int .i64 b, .int .i64 c, .int .u64 m], LdV X R] w fun e w' => e = .returned (.bool true) ∧ w'.heap[X]? = some (.cells #[.int .u64 (Mc.le zs)] 29 (0, 0)) ∧ Fr X none none w w' := by
  unfold maxLen at hn
  subst hc
  have e1 : IntKind.u64.wrap (n : Int) = n := by rw [IntKind.wrap_u64]; omega
  have e2 : IntKind.u64.wrap (x + m) = (k : Int) := by rw [IntKind.wrap_u64]; exact hk
  have e3 : IntKind.u64.wrap (cn : Int) = cn := by rw [IntKind.wrap_u64]; omega
  have E2 := Lib.hid e2
  have HMB := Lib.hid hb
  have HM := Lib.hid hm
  have HXX := Lib.hid hX
  have HRR := Lib.hid hR
  have HZS := Lib.hid hz
  have HZR := Lib.hid hzr
  have HXR := Lib.hid hXR
  have HXM := Lib.hid hXm
  have HXG := Lib.hid hXg
  have HZL := Lib.hid hzl
  clear e2 hX hR hz hk hzr hXR hXm hXg hzl
  have hf1 : (w.alloc (.cells #[.int .i64 op, .int .i64 a, .int .i64 b, .int .i64 (cn : Int), .int .u64 m] 59)).cell? ⟨w.heap.size, 0, none⟩ = some (.int .i64 op) ∧ (w.alloc (.cells #[.int .i64 op, .int .i64 a, .int .i64 b, .int .i64 (cn : Int), .int .u64 m] 59)).cell? ⟨w.heap.size, 1, none⟩ = some (.int .i64 a) ∧ (w.alloc (.cells #[.int .i64 op, .int .i64 a, .int .i64 b, .int .i64 (cn : Int), .int .u64 m] 59)).cell? ⟨w.heap.size, 2, none⟩ = some (.int .i64 b) ∧ (w.alloc (.cells #[.int .i64 op, .int .i64 a, .int .i64 b, .int .i64 (cn : Int), .int .u64 m] 59)).cell? ⟨w.heap.size, 3, none⟩ = some (.int .i64 (cn : Int)) ∧ (w.alloc (.cells #[.int .i64 op, .int .i64 a, .int .i64 b, .int .i64 (cn : Int), .int .u64 m] 59)).cell? ⟨w.heap.size, 4, none⟩ = some (.int .u64 m) := by simp
  have h16 : (w.alloc (.cells #[.int .i64 op, .int .i64 a, .int .i64 b, .int .i64 (cn : Int), .int .u64 m] 59)).cell? ⟨g, 16, none⟩ = some (.slice (some ⟨mb, 0, none⟩) n cap) := hb.cA hm _
  have hR1 : RnB (w.alloc (.cells #[.int .i64 op, .int .i64 a, .int .i64 b, .int .i64 (cn : Int), .int .u64 m] 59)) g cs := hb.box _
  have hB : Below w.heap.size w (w.alloc (.cells #[.int .i64 op, .int .i64 a, .int .i64 b, .int .i64 (cn : Int), .int .u64 m] 59)) := Below.box _ _
  have hzz : (w.alloc (.cells #[.int .i64 op, .int .i64 a, .int .i64 b, .int .i64 (cn : Int), .int .u64 m] 59)).heap.size = w.heap.size + 1 := by simp
  have hg : g < (w.alloc (.cells #[.int .i64 op, .int .i64 a, .int .i64 b, .int .i64 (cn : Int), .int .u64 m] 59)).heap.size := hR1.lt
  have HF := Lib.hid hf1
  have H16 := Lib.hid h16
  have HR := Lib.hid hR1
  have HB := Lib.hid hB
  have HZ := Lib.hid hzz
  have HG := Lib.hid hg
  have HX := Lib.hid hx
  clear hf1 h16 hR1 hB hzz hg hb hm hx
  go_enter Tryd.func91, Tryd.ntmps91
  go_wp2_with fail
  generalize w.alloc (.cells #[.int .i64 op, .int .i64 a, .int .i64 b, .int .i64 (cn : Int), .int .u64 m] 59) = w1 at *
  refine wp_region_held_drew (S := fun W => Below w1.heap.size w1 W) (by kernel_rfl) (Below.refl _ _).drew (fun hHeld => ?_)
  refine wpAnyH_take (i := 0) (v := .pointer (some ⟨g, 0, none⟩)) rfl (by kernel_rfl) (by kernel_rfl) (by kernel_rfl) (fun _ _ _ h => h) (Or.inl ⟨by rfl, fun w9 hSw => ?_⟩) hHeld ?_
  · (try dsimp only at hSw)
    go_simp
  try simp only [List.getElem_toArray, List.getElem_cons_succ, List.getElem_cons_zero, Act.put, List.setIfInBounds_toArray, List.set_cons_zero, List.set_cons_succ]
  refine wpAnyH_take (i := 1) (v := .agg #[.int .i64 op, .int .i64 a, .int .i64 b, .int .i64 (cn : Int), .int .u64 m]) rfl (by kernel_rfl) (by kernel_rfl) (by kernel_rfl) (fun _ _ _ h => h) (Or.inl ⟨by rfl, fun w9 hSw => ?_⟩) hHeld ?_
  · (try dsimp only at hSw)
    have q0 := cells_below hSw HF.out.1 (by simp [HZ.out])
    have q1 := cells_below hSw HF.out.2.1 (by simp [HZ.out])
    have q2 := cells_below hSw HF.out.2.2.1 (by simp [HZ.out])
    have q3 := cells_below hSw HF.out.2.2.2.1 (by simp [HZ.out])
    have q4 := cells_below hSw HF.out.2.2.2.2 (by simp [HZ.out])
    go_simp
  try simp only [List.getElem_toArray, List.getElem_cons_succ, List.getElem_cons_zero, Act.put, List.setIfInBounds_toArray, List.set_cons_zero, List.set_cons_succ]
  refine wpAnyH_take (i := 3) (v := .pointer (some ⟨g, 0, none⟩)) rfl (by kernel_rfl) (by kernel_rfl) (by kernel_rfl) (fun _ _ _ h => h) (Or.inl ⟨by rfl, fun w9 hSw => ?_⟩) hHeld ?_
  · (try dsimp only at hSw)
    go_simp
  try simp only [List.getElem_toArray, List.getElem_cons_succ, List.getElem_cons_zero, Act.put, List.setIfInBounds_toArray, List.set_cons_zero, List.set_cons_succ]
  refine wpAnyH_take (i := 4) (v := .pointer (some ⟨g, 0, none⟩)) rfl (by kernel_rfl) (by kernel_rfl) (by kernel_rfl) (fun _ _ _ h => h) (Or.inl ⟨by rfl, fun w9 hSw => ?_⟩) hHeld ?_
  · (try dsimp only at hSw)
    go_simp
  try simp only [List.getElem_toArray, List.getElem_cons_succ, List.getElem_cons_zero, Act.put, List.setIfInBounds_toArray, List.set_cons_zero, List.set_cons_succ]
  refine wpAnyH_take (i := 5) (v := .pointer (some ⟨g, 7, none⟩)) rfl (by kernel_rfl) (by kernel_rfl) (by kernel_rfl) (fun _ _ _ h => h) (Or.inl ⟨by rfl, fun w9 hSw => ?_⟩) hHeld ?_
  · (try dsimp only at hSw)
    go_simp
  try simp only [List.getElem_toArray, List.getElem_cons_succ, List.getElem_cons_zero, Act.put, List.setIfInBounds_toArray, List.set_cons_zero, List.set_cons_succ]
  refine wpAnyH_take (i := 6) (v := .pointer (some ⟨g, 16, none⟩)) rfl (by kernel_rfl) (by kernel_rfl) (by kernel_rfl) (fun _ _ _ h => h) (Or.inl ⟨by rfl, fun w9 hSw => ?_⟩) hHeld ?_
  · (try dsimp only at hSw)
    go_simp
  try simp only [List.getElem_toArray, List.getElem_cons_succ, List.getElem_cons_zero, Act.put, List.setIfInBounds_toArray, List.set_cons_zero, List.set_cons_succ]
  refine wpAnyH_take (i := 7) (v := .slice (some ⟨mb, 0, none⟩) n cap) rfl (by kernel_rfl) (by kernel_rfl) (by kernel_rfl) (fun _ _ _ h => h) (Or.inl ⟨by rfl, fun w9 hSw => ?_⟩) hHeld ?_
  · (try dsimp only at hSw)
    have q16 := cells_below hSw H16.out HG.out
    go_simp
  try simp only [List.getElem_toArray, List.getElem_cons_succ, List.getElem_cons_zero, Act.put, List.setIfInBounds_toArray, List.set_cons_zero, List.set_cons_succ]
  refine wpAnyH_take (i := 8) (v := .int .i64 n) rfl (by kernel_rfl) (by kernel_rfl) (by kernel_rfl) (fun _ _ _ h => h) (Or.inl ⟨by rfl, fun w9 hSw => ?_⟩) hHeld ?_
  · (try dsimp only at hSw)
    go_simp
  try simp only [List.getElem_toArray, List.getElem_cons_succ, List.getElem_cons_zero, Act.put, List.setIfInBounds_toArray, List.set_cons_zero, List.set_cons_succ]
  refine wpAnyH_take (i := 9) (v := .int .u64 n) rfl (by kernel_rfl) (by kernel_rfl) (by kernel_rfl) (fun _ _ _ h => h) (Or.inl ⟨by rfl, fun w9 hSw => ?_⟩) hHeld ?_
  · (try dsimp only at hSw)
    go_simp
  try simp only [List.getElem_toArray, List.getElem_cons_succ, List.getElem_cons_zero, Act.put, List.setIfInBounds_toArray, List.set_cons_zero, List.set_cons_succ]
  refine wpAnyH_ready (rs := [2]) (by kernel_rfl) (by simp) ?_
  refine (AllReadyH.cons rfl (fun K hK => ?_) AllReadyH.nil)
  go_simp
  go_at_call 94
  refine (address_any g b op a cn m x cs _ HR.out.drew HX.out hl).mono ?_
  rintro e v ⟨rfl, hbv⟩
  refine hK.out _ _ ((Below.refl _ _).drew.trans hbv) (fun hHeld => ?_)
  clear hK K
  try simp only [List.getElem_toArray, List.getElem_cons_succ, List.getElem_cons_zero, Act.put, List.setIfInBounds_toArray, List.set_cons_zero, List.set_cons_succ]
  refine wpAnyH_take (i := 10) (v := .int .u64 (IntKind.u64.wrap (x + m))) rfl (by kernel_rfl) (by kernel_rfl) (by kernel_rfl) (fun _ _ _ h => h) (Or.inl ⟨by rfl, fun w9 hSw => ?_⟩) hHeld ?_
  · (try dsimp only at hSw)
    go_simp
  try simp only [List.getElem_toArray, List.getElem_cons_succ, List.getElem_cons_zero, Act.put, List.setIfInBounds_toArray, List.set_cons_zero, List.set_cons_succ]
  refine wpAnyH_take (i := 11) (v := .int .u64 n) rfl (by kernel_rfl) (by kernel_rfl) (by kernel_rfl) (fun _ _ _ h => h) (Or.inl ⟨by rfl, fun w9 hSw => ?_⟩) hHeld ?_
  · (try dsimp only at hSw)
    go_simp
  try simp only [List.getElem_toArray, List.getElem_cons_succ, List.getElem_cons_zero, Act.put, List.setIfInBounds_toArray, List.set_cons_zero, List.set_cons_succ]
  refine wpAnyH_done (by kernel_rfl) ?_ _
  rw [E2.out]
  have hbv' : Below w1.heap.size w1 v := hHeld
  have q3 := cells_below hbv' HF.out.2.2.2.1 (by simp [HZ.out])
  have hBv : Below w.heap.size w v := HB.out.trans (hbv'.mono (by simp [HZ.out]))
  have HH := Lib.hid hBv
  clear hHeld hbv' hbv hBv
  have hgt : ¬ (n : Int) < k := by omega
  have e4 : IntKind.u64.wrap ((n : Int) - k) = n - k := by rw [IntKind.wrap_u64]; omega
  have hlt : ¬ (n : Int) - k < cn := by omega
  have hXl : X < w.heap.size := by
    rcases Nat.lt_or_ge X w.heap.size with h1 | h1
    · exact h1
    · have := HXX.out; rw [Array.getElem?_eq_none h1] at this; cases this
  go_wp2
  go_loopw [9, 34] (fun _ i wr => ∃ q : Nat, q ≤ cn ∧ i = .int .i64 q ∧ wr.heap[X]? = some (.cells #[.int .u64 (Mc.le (zs.take q))] 29 (0, 0)) ∧ Fr X none none w wr) (fun _ i _ => cn - (intOf i).toNat)
  case atStart => exact ⟨0, by omega, rfl, ((HH.out.block X hXl).trans HXX.out).trans (by simp [Mc.le]), Fr.of_below HH.out⟩
  case round =>
    obtain ⟨q, hq, rfl, hXq, hfr⟩ := hrel
    have HXQ := Lib.hid hXq
    have HFR := Lib.hid hfr
    clear hXq hfr
    by_cases hqc : q < cn
    · have hql : (q : Int) < cn := by omega
      have e5 : IntKind.u64.wrap (q : Int) = q := by rw [IntKind.wrap_u64]; omega
      have e6 : IntKind.u64.wrap ((k : Int) + q) = ((k + q : Nat) : Int) := by rw [IntKind.wrap_u64]; omega
      have e7 : IntKind.i64.wrap (8 * (q : Int)) = 8 * q := by rw [IntKind.wrap_i64]; omega
      have old : ∀ (B i : Nat), B < w.heap.size → X ≠ B → wr.cell? ⟨B, i, none⟩ = w.cell? ⟨B, i, none⟩ := fun B i h1 h2 => World.cell?_of_block (HFR.out.block B h1 (Ne.symm h2) (by simp) (by simp))
      have hml : mb < w.heap.size := World.block_lt_of_cell? _ _ (HZS.out q hqc)
      have hRl : R < w.heap.size := World.block_lt_of_cell? _ _ HRR.out
      have cX : wr.cell? ⟨X, 0, none⟩ = some (.int .u64 (Mc.le (zs.take q))) := by rw [cell_of_row _ _ _ _ _ _ HXQ.out]; rfl
      have cR := (old R 0 hRl HXR.out).trans HRR.out
      have cM := (old g 16 HMB.out.lt HXG.out).trans ((HMB.out.c 16).trans HM.out)
      have cZ := (old mb (k + q) hml HXM.out).trans (HZS.out q hqc)
      have hqz : q < zs.length := by have := HZL.out; omega
      have hzm : zs.getD q 0 ∈ zs := by rw [List.getD_eq_getElem?_getD, List.getElem?_eq_getElem hqz]; exact List.getElem_mem hqz
      have hzb := HZR.out _ hzm
      have hlr := Mc.le_rng (zs.take q) fun y hy => HZR.out y (List.mem_of_mem_take hy)
      rw [List.length_take, Nat.min_eq_left (by omega)] at hlr
      have hcl := load_clo g X R mb cap n (k + q) q (Mc.le (zs.take q)) (zs.getD q 0) wr cX cR cM (by omega) (by unfold maxLen; omega) cZ (Joins.unfrozen_of_block HXQ.out 0) (by omega) hlr.1 hlr.2 hzb.1 hzb.2
      rw [← Mc.le_take zs q hqz] at hcl
      have HCL := Lib.hid hcl
      clear old cX cR cM cZ hzm hzb hlr hcl
      go_wp2_with (go_at_call 92; refine HCL.out.mono ?_; rintro e v2 ⟨rfl, rfl⟩)
      go_roundw
      case rel =>
        refine ⟨q + 1, by omega, by go_num, ?_, ?_⟩
        · exact Joins.block_setCell HXQ.out _
        · exact HFR.out.trans (Fr.set _ _ _).drew
      case measure => simp [intOf]; omega
    · have hqe : q = cn := by omega
      have HQE := Lib.hid hqe
      have hql : ¬ (q : Int) < cn := by omega
      clear hqe
      go_wp2
      go_ret
      have hta : zs.take q = zs := List.take_of_length_le (by have := HQE.out; have := HZL.out; omega)
      exact ⟨rfl, by rw [← hta]; exact HXQ.out, HFR.out⟩
end Go.Proofs.YtfhnigfghfmolaaDoor
