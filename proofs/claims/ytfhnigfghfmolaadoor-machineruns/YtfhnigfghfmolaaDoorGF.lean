/-
  The contract of step.
  Contracts of makeActions and newRunner.
  The contract of newRunner.
  The contract of Start.
  What states keep along steps of a right image, in plain words.
  The contract of Run: its error ways, and what a run is.
-/
import Derived.Test.YtfhnigfghfmolaaDoorGE
import Derived.Laws.EntriesVeiled
import Derived.Laws.CopyOwn
import Derived.Deep.OwnRows
import Derived.Test.YtfhnigfghfmolaaDoorGC
set_option linter.unusedSimpArgs false
set_option linter.unusedVariables false
namespace Go.Proofs.YtfhnigfghfmolaaDoor
set_option maxRecDepth 100000
open Go.RowKit

namespace Mc
def still (s : St) (r : St × Int × Int) : Prop := r.2.2 = 0 ∨ r.1 = s
theorem still_ite {s : St} {c : Prop} [Decidable c] {x y : St × Int × Int} (h : still s x) (k : still s y) : still s (if c then x else y) := by
  split
  · exact h
  · exact k
theorem act_or (p : Im.Pic) (xs : List Int) (i : Im.I5) (s : St) (nx : Int) : still s (act p xs i s nx) := by
  unfold act
  repeat' (first
    | exact .inr rfl
    | exact .inl rfl
    | refine still_ite ?_ ?_)
/-- What a step of a right image wants of a state. -/
structure Ok1 (p : Im.Pic) (s : St) : Prop where
  p0 : 0 ≤ s.pl
  p1 : s.pl < p.cs.length
  rl : s.rg.length = 8
  rr : ∀ x ∈ s.rg, 0 ≤ x ∧ x < 18446744073709551616
  mb : Cd.isB s.mm
  ol : s.op.length ≤ 1000
end Mc

theorem callF : ∀ (n : Nat), n < 26 → ∀ (args : Array Value) (W : World), (callFunc (fnOf n) args).run Tryd.prog W = .ok (.enter (fnOf n) args) W
  | 0, _, _, _ => by kernel_rfl
  | 1, _, _, _ => by kernel_rfl
  | 2, _, _, _ => by kernel_rfl
  | 3, _, _, _ => by kernel_rfl
  | 4, _, _, _ => by kernel_rfl
  | 5, _, _, _ => by kernel_rfl
  | 6, _, _, _ => by kernel_rfl
  | 7, _, _, _ => by kernel_rfl
  | 8, _, _, _ => by kernel_rfl
  | 9, _, _, _ => by kernel_rfl
  | 10, _, _, _ => by kernel_rfl
  | 11, _, _, _ => by kernel_rfl
  | 12, _, _, _ => by kernel_rfl
  | 13, _, _, _ => by kernel_rfl
  | 14, _, _, _ => by kernel_rfl
  | 15, _, _, _ => by kernel_rfl
  | 16, _, _, _ => by kernel_rfl
  | 17, _, _, _ => by kernel_rfl
  | 18, _, _, _ => by kernel_rfl
  | 19, _, _, _ => by kernel_rfl
  | 20, _, _, _ => by kernel_rfl
  | 21, _, _, _ => by kernel_rfl
  | 22, _, _, _ => by kernel_rfl
  | 23, _, _, _ => by kernel_rfl
  | 24, _, _, _ => by kernel_rfl
  | 25, _, _, _ => by kernel_rfl
  | n + 26, h, _, _ => absurd h (by omega)

/-- Of an instruction of a right image: where it leads. -/
theorem right_leads {p : Im.Pic} (h : Mc.R p) {k : Nat} (hk : k < p.cs.length) : ((p.cs.getD k Im.z5).op = 21 ∨ (p.cs.getD k Im.z5).op = 22 → (p.cs.getD k Im.z5).m < p.cs.length) ∧ ((p.cs.getD k Im.z5).op = 23 → (p.cs.getD k Im.z5).m < p.fs.length) := by
  have hC := h.cnt
  have hP := hC.2.2.2.2.2.2
  obtain ⟨h1, h2, h3⟩ := Im.own_spec hP hC.2.2.2.2.1.1 (p := (k : Int)) (by omega) (by omega)
  have hok := h.ok k hk
  unfold Im.okB at hok
  simp only [Bool.and_eq_true] at hok
  have hl := hok.1
  unfold Im.leads at hl
  have ht := hP.till_le h1
  refine ⟨fun e => ?_, fun e => ?_⟩
  · rw [if_pos e] at hl
    simp only [Bool.and_eq_true, decide_eq_true_eq] at hl
    omega
  · rw [if_neg (by omega), if_pos e] at hl
    simpa using hl

/-- What a step leaves. -/
def SP (H : Hd) (w0 : World) (g : Nat) (M O : Value) (r : Mc.St × Int) (w : World) (e : Ending) (w' : World) : Prop :=
  ∃ O' nx, e = .returned (.int .i64 r.2) ∧ Rn H w0 g M O' r.1 nx w' ∧ Fr g M.ownBlock O.ownBlock w w' ∧ (O'.ownBlock = O.ownBlock ∨ ∃ k, O'.ownBlock = some k ∧ w.heap.size ≤ k)

set_option maxRecDepth 20000 in
set_option maxHeartbeats 3200000 in
theorem step_any (H : Hd) (w0 : World) (g : Nat) (M O : Value) (s : Mc.St) (nx : Int) (w : World) (HA : HdAt w0 H) (h : Rn H w0 g M O s nx w) (hR : Mc.R H.p) (hok : Mc.Ok1 H.p s) :
    Calls Tryd.prog 30 #[.pointer (some ⟨g, 0, none⟩)] w (SP H w0 g M O (Mc.step H.p H.xs s) w) := by
  obtain ⟨k, hk⟩ := Int.eq_ofNat_of_zero_le hok.p0
  have hkl : k < H.p.cs.length := by have := hok.p1; omega
  obtain ⟨cs, hb, hc⟩ := h.row
  have hIA := HA.img.c.below h.bel
  have hlc := hIA.hlen
  have hlm := Nat.le_trans hIA.hle hIA.hcap
  obtain ⟨bc, oc, hAc, hbc, hcc⟩ := hIA.mem (by omega)
  have hins := hcc k (by omega)
  have hrng := hIA.rng k
  have hbad := hR.bad k hkl
  have hld := right_leads hR hkl
  have hi : Mc.ins H.p s = H.p.cs.getD k Im.z5 := by unfold Mc.ins; rw [hk]; simp
  generalize hI : H.p.cs.getD k Im.z5 = i at *
  have hlf := HA.img.f.hlen
  have hCn := hR.cnt
  have hstep : Mc.step H.p H.xs s = (if (Mc.act H.p H.xs i s (k + 1)).2.2 = 0 then ({ (Mc.act H.p H.xs i s (k + 1)).1 with pl := (Mc.act H.p H.xs i s (k + 1)).2.1 }, 0) else (s, (Mc.act H.p H.xs i s (k + 1)).2.2)) := by unfold Mc.step; rw [hi, hk]
  have HST := Lib.hid hstep
  clear hstep
  generalize Mc.step H.p H.xs s = R at *
  have hact : ∀ W, Rn H w0 g M O s ((k : Int) + 1) W → Calls Tryd.prog (fnOf i.op.toNat) #[.pointer (some ⟨g, 0, none⟩), .agg #[.int .i64 i.op, .int .i64 i.a, .int .i64 i.b, .int .i64 i.c, .int .u64 i.m]] W (AP H w0 g M O (Mc.act H.p H.xs i s (k + 1)) W) := fun W hW =>
    act_any HA hW hok.rl hok.rr hok.mb hok.ol i hbad hrng.1 (fun e => by have := hld.1 e; have := hCn.2.2.2.2.2.1.2; omega) (fun e => by have := hld.2 e; omega)
  have hend := Mc.act_or H.p H.xs i s (k + 1)
  generalize Mc.act H.p H.xs i s (k + 1) = r at *
  obtain ⟨s', nx', en⟩ := r
  obtain ⟨sf, ef⟩ := R
  obtain ⟨o0, o1, _⟩ := Cd.bad_none (show Cd.bad i.op i.a i.b i.c i.m = -1 from hbad)
  obtain ⟨n, hn⟩ := Int.eq_ofNat_of_zero_le o0
  have hn26 : n < 26 := by omega
  have hac := hc.ac n hn26
  rw [hn] at hact
  have hact' := hact
  rw [show ((n : Int)).toNat = n by simp] at hact'
  have haV : actV n = .func (.func (fnOf n)) #[] #[] := rfl
  rw [haV] at hac
  have hcf := callF n hn26
  generalize fnOf n = F at *
  have HCF := Lib.hid hcf
  clear hcf
  obtain ⟨op, a, b, c, m⟩ := i
  simp only at hn hact'
  obtain ⟨i0, i1, i2, i3, i4⟩ := hins
  simp only at i0 i1 i2 i3 i4
  rw [hn] at i0
  have c5 := hc.c5
  rw [hAc] at c5
  have x5 := (hb.c 5).trans c5
  have x7 := (hb.c 7).trans hc.c7
  rw [hk] at x7
  have y5 := hb.cA c5
  have y7 : ∀ o, (w.alloc o).cell? ⟨g, 7, none⟩ = some (.int .i64 k) := fun o => by rw [hb.cA hc.c7 o, hk]
  have j0 : ∀ o, (w.alloc o).cell? ⟨bc, oc + k * 5, none⟩ = _ := fun o => ((Below.box w o).cell (p := ⟨bc, oc + k * 5, none⟩) hbc).trans i0
  have j1 : ∀ o, (w.alloc o).cell? ⟨bc, oc + k * 5 + 1, none⟩ = _ := fun o => ((Below.box w o).cell (p := ⟨bc, oc + k * 5 + 1, none⟩) hbc).trans i1
  have j2 : ∀ o, (w.alloc o).cell? ⟨bc, oc + k * 5 + 2, none⟩ = _ := fun o => ((Below.box w o).cell (p := ⟨bc, oc + k * 5 + 2, none⟩) hbc).trans i2
  have j3 : ∀ o, (w.alloc o).cell? ⟨bc, oc + k * 5 + 3, none⟩ = _ := fun o => ((Below.box w o).cell (p := ⟨bc, oc + k * 5 + 3, none⟩) hbc).trans i3
  have j4 : ∀ o, (w.alloc o).cell? ⟨bc, oc + k * 5 + 4, none⟩ = _ := fun o => ((Below.box w o).cell (p := ⟨bc, oc + k * 5 + 4, none⟩) hbc).trans i4
  have hkc : (k : Int) < H.lc := by omega
  have hne : bc ≠ w.heap.size := by omega
  have hg : g ≠ w.heap.size := by have := hb.lt; omega
  unfold maxLen at hlm
  have HB := Lib.hid hb
  have HC := Lib.hid hc
  have HRN := Lib.hid h
  have HACT := Lib.hid hact'
  have HEND := Lib.hid hend
  have HAC := Lib.hid hac
  have HOK := Lib.hid hok
  clear hb hc h hact hact' hend hac hok hrng hbad hld hi hI hIA hcc hCn HA hR c5 haV hlf hlc hbc hkl o0 o1 hk
  subst hn
  go_enter Tryd.func30, Tryd.ntmps30
  go_wp2_with fail
  go_region
  have hB1 : Below w.heap.size w (w.alloc (.cells #[.int .i64 n, .int .i64 a, .int .i64 b, .int .i64 c, .int .u64 m] 59)).drew := (Below.box _ _).drew
  have hR1 : RnB (w.alloc (.cells #[.int .i64 n, .int .i64 a, .int .i64 b, .int .i64 c, .int .u64 m] 59)).drew g cs := (HB.out.box _).drew
  have hbx : (w.alloc (.cells #[.int .i64 n, .int .i64 a, .int .i64 b, .int .i64 c, .int .u64 m] 59)).drew.heap[w.heap.size]? = some (.cells #[.int .i64 n, .int .i64 a, .int .i64 b, .int .i64 c, .int .u64 m] 59 (0, 0)) := heap_newM rfl
  have hz1 : w.heap.size < (w.alloc (.cells #[.int .i64 n, .int .i64 a, .int .i64 b, .int .i64 c, .int .u64 m] 59)).drew.heap.size := by simp
  have hx7 := y7 (.cells #[.int .i64 n, .int .i64 a, .int .i64 b, .int .i64 c, .int .u64 m] 59)
  have hx7 : (w.alloc (.cells #[.int .i64 n, .int .i64 a, .int .i64 b, .int .i64 c, .int .u64 m] 59)).drew.cell? ⟨g, 7, none⟩ = some (.int .i64 k) := hx7
  clear i0 i1 i2 i3 i4 x5 x7 y5 y7 j0 j1 j2 j3 j4
  generalize (w.alloc (.cells #[.int .i64 n, .int .i64 a, .int .i64 b, .int .i64 c, .int .u64 m] 59)).drew = w1 at *
  obtain ⟨v18, hv18⟩ := RnB.ex HC.out.sz (i := 18) (by decide)
  have x18 := (hR1.c 18).trans hv18
  have f18 := Joins.unfrozen_of_block hR1 18
  have hw1 : IntKind.i64.wrap ((k : Int) + 1) = k + 1 := by rw [IntKind.wrap_i64]; omega
  have hR2 := hR1.set (i := 18) (.int .i64 ((k : Int) + 1))
  have hRn2 : Rn H w0 g M O s ((k : Int) + 1) (w1.setCell ⟨g, 18, none⟩ (.int .i64 ((k : Int) + 1))) := (HRN.out.below hB1).cells hR2 (HC.out.nx _) (Fr.set _ _ _) rfl rfl
  have hF2 : Fr g none none w (w1.setCell ⟨g, 18, none⟩ (.int .i64 ((k : Int) + 1))) := (Fr.of_below hB1).trans (Fr.set _ _ _)
  have hb2 : (w1.setCell ⟨g, 18, none⟩ (.int .i64 ((k : Int) + 1))).heap[w.heap.size]? = some (.cells #[.int .i64 n, .int .i64 a, .int .i64 b, .int .i64 c, .int .u64 m] 59 (0, 0)) := (Below.heap_setCell _ _ _ _ (by simp; omega)).trans hbx
  have HR2 := Lib.hid hR2
  have HRN2 := Lib.hid hRn2
  have HF2 := Lib.hid hF2
  have HB2 := Lib.hid hb2
  clear hB1 hR1 hbx hz1 hv18 hR2 hRn2 hF2 hb2
  go_wp2_with fail
  generalize w1.setCell ⟨g, 18, none⟩ (.int .i64 ((k : Int) + 1)) = w2 at *
  clear x18 f18 hw1 hx7
  have z0 := row_cell HB2.out 0
  have z1 := row_cell HB2.out 1
  have z2 := row_cell HB2.out 2
  have z3 := row_cell HB2.out 3
  have z4 := row_cell HB2.out 4
  simp at z0 z1 z2 z3 z4
  have zA := (HR2.out.c (19 + n)).trans ((Array.getElem?_setIfInBounds_ne (by omega)).trans HAC.out)
  have hnn : (n : Int) < 26 := by omega
  refine quiet_tail 9 (by kernel_rfl) (by kernel_rfl) ?_
  simp only [List.take_succ_cons, List.take_zero, List.drop_succ_cons, List.drop_zero]
  repeat (quiet_step (fail))
  refine wpQuiet_nil ?_
  intro _ hw'
  obtain ⟨nq, hw''⟩ := hw'
  subst hw''
  clear z0 z1 z2 z3 z4 zA
  have hC3 := HACT.out _ (HRN2.out.below (below_drewN (Below.refl _ _) nq))
  have HC3 := Lib.hid hC3
  have hcf := HCF.out
  clear hC3
  go_wp2_with fail
  clear hcf
  refine HC3.out.mono ?_
  rintro e v ⟨O', rfl, hrn, hfr, hor⟩
  have hFv : Fr g M.ownBlock O.ownBlock w v := (HF2.out.wide.drewN nq).trans hfr
  have hO' : O'.ownBlock = O.ownBlock ∨ ∃ k, O'.ownBlock = some k ∧ w.heap.size ≤ k := hor.imp_right fun ⟨k, h1, h2⟩ => ⟨k, h1, Nat.le_trans HF2.out.size h2⟩
  have HV := Lib.hid hFv
  have HO' := Lib.hid hO'
  have HN := Lib.hid hrn
  clear hrn hfr hor hFv hO'
  by_cases hen : en = 0
  · have hst := HST.out
    rw [if_pos hen] at hst
    simp only [Prod.mk.injEq] at hst
    obtain ⟨rfl, rfl⟩ := hst
    subst hen
    obtain ⟨cv, hbv, hcv⟩ := HN.out.row
    have v18 := (hbv.c 18).trans hcv.c18
    have v7 := (hbv.c 7).trans hcv.c7
    have f7 := Joins.unfrozen_of_block hbv 7
    have HBV := Lib.hid hbv
    have HCV := Lib.hid hcv
    clear hbv hcv
    go_wp2
    go_ret
    exact ⟨O', nx', rfl, HN.out.cells (HBV.out.set _) (HCV.out.pl _) (Fr.set _ _ _) rfl rfl, HV.out.trans (Fr.set _ _ _), HO'.out⟩
  · have hst := HST.out
    rw [if_neg hen] at hst
    simp only [Prod.mk.injEq] at hst
    obtain ⟨rfl, rfl⟩ := hst
    have hs' : s' = sf := HEND.out.resolve_left hen
    have HS' := Lib.hid hs'
    have hen' : (ef == 0) = false := by simpa using hen
    clear hen hs'
    go_wp2
    go_ret
    exact ⟨O', nx', rfl, by rw [← HS'.out]; exact HN.out, HV.out, HO'.out⟩
end Go.Proofs.YtfhnigfghfmolaaDoor
namespace Go.Proofs.YtfhnigfghfmolaaDoor
set_option maxRecDepth 100000
open Go.RowKit

abbrev actA : Array Value := #[.func (.func 68) #[] #[], .func (.func 69) #[] #[], .func (.func 70) #[] #[], .func (.func 71) #[] #[], .func (.func 71) #[] #[], .func (.func 71) #[] #[], .func (.func 72) #[] #[], .func (.func 72) #[] #[], .func (.func 71) #[] #[], .func (.func 71) #[] #[], .func (.func 71) #[] #[], .func (.func 71) #[] #[], .func (.func 71) #[] #[], .func (.func 71) #[] #[], .func (.func 71) #[] #[], .func (.func 71) #[] #[], .func (.func 71) #[] #[], .func (.func 73) #[] #[], .func (.func 74) #[] #[], .func (.func 75) #[] #[], .func (.func 76) #[] #[], .func (.func 77) #[] #[], .func (.func 78) #[] #[], .func (.func 79) #[] #[], .func (.func 80) #[] #[], .func (.func 81) #[] #[]]
theorem below_setRowM {B : Nat} {a W : World} (h : Below B a W) {g : Nat} (hg : B ≤ g) (c : Array Value) : Below B a (W.setRow g c) :=
  h.trans ⟨rfl, rfl, rfl, by simp, fun k hk => setRow_other W g k c (by omega)⟩
theorem size69 : (Tryd.prog.info? 69).map (·.size) = some actA.size := by kernel_rfl
theorem store_act {ops : Array Oper} {rest : List Oper} {o : Oper} {a : Act} {w : World} {Q : Exit → Act → World → Prop} (x y : Operand) (g : Nat) (old : Array Value) (hr : w.heap[g]? = some (.cells old 69 (0, 0))) (hz : old.size = 26) (hgd : o.guard = none) (ho : o.op = .store 69 x y)
    (hx : a.eval x = .pointer (some ⟨g, 0, none⟩)) (hy : a.eval y = .agg actA)
    (h : wpList Tryd.prog ops Q rest (a.put o.dst undef) (w.setRow g actA)) : wpList Tryd.prog ops Q (o :: rest) a w :=
  wpList_store_row hgd 69 x y ho g actA hx hy 69 old hr size69 hz (by kernel_rfl) h
theorem ret_act {fn : Func} {p : Tmp} {R : Ending → World → Prop} {a : Act} {w : World} (g : Nat) (hr : w.heap[g]? = some (.cells actA 69 (0, 0))) (hf : fn.results = #[.cell p 69]) (hd : a.defers = []) (hp : a.tmps.getD p undef = .pointer (some ⟨g, 0, none⟩)) (hR : R (.returned (.agg actA)) w) :
    bodyPost Tryd.prog fn R .ret a w :=
  bodyPost_ret (results_cell_row hf a.tmps w g 69 actA (0, 0) _ hp hr Tryd.underlying69 rfl size69) hd hR

set_option maxRecDepth 20000 in
set_option maxHeartbeats 3200000 in
theorem makeActions_any (w : World) : Calls Tryd.prog 46 #[] w fun e w' => e = .returned (.agg actA) ∧ Below w.heap.size w w' := by
  have hB : ∀ o, Below w.heap.size w (w.alloc o) := fun o => Below.box w o
  have hg : ∀ o, (w.alloc o).heap[w.heap.size]? = some o := fun o => heap_newM rfl
  go_enter Tryd.func46, Tryd.ntmps46
  go_upto_region 1 with (fail)
  have h1 := hB (.cells #[.nilFunc, .nilFunc, .nilFunc, .nilFunc, .nilFunc, .nilFunc, .nilFunc, .nilFunc, .nilFunc, .nilFunc, .nilFunc, .nilFunc, .nilFunc, .nilFunc, .nilFunc, .nilFunc, .nilFunc, .nilFunc, .nilFunc, .nilFunc, .nilFunc, .nilFunc, .nilFunc, .nilFunc, .nilFunc, .nilFunc] 69)
  have h2 := hg (.cells #[.nilFunc, .nilFunc, .nilFunc, .nilFunc, .nilFunc, .nilFunc, .nilFunc, .nilFunc, .nilFunc, .nilFunc, .nilFunc, .nilFunc, .nilFunc, .nilFunc, .nilFunc, .nilFunc, .nilFunc, .nilFunc, .nilFunc, .nilFunc, .nilFunc, .nilFunc, .nilFunc, .nilFunc, .nilFunc, .nilFunc] 69)
  generalize w.alloc (.cells #[.nilFunc, .nilFunc, .nilFunc, .nilFunc, .nilFunc, .nilFunc, .nilFunc, .nilFunc, .nilFunc, .nilFunc, .nilFunc, .nilFunc, .nilFunc, .nilFunc, .nilFunc, .nilFunc, .nilFunc, .nilFunc, .nilFunc, .nilFunc, .nilFunc, .nilFunc, .nilFunc, .nilFunc, .nilFunc, .nilFunc] 69) = w1 at *
  have HB := Lib.hid h1
  have HG := Lib.hid h2
  clear hB hg h1 h2
  go_wp2_with (first | (with_reducible refine store_act (.tmp 0) (.tmp 1) _ _ HG.out rfl rfl rfl rfl rfl ?_) | fail)
  refine ret_act w.heap.size (setRow_heap _ _ _ _ _ _ HG.out) rfl rfl rfl ⟨rfl, below_setRowM HB.out (Nat.le_refl _) _⟩
end Go.Proofs.YtfhnigfghfmolaaDoor
namespace Go.Proofs.YtfhnigfghfmolaaDoor
set_option maxRecDepth 100000
open Go.RowKit

set_option maxRecDepth 20000 in
set_option maxHeartbeats 3200000 in
theorem newRunner_any (mem stk inp : Int) (Ad : Option Addr) (ld cd : Nat) (Af : Option Addr) (lf cf : Nat) (Ac : Option Addr) (lc cc : Nat) (Ai : Option Addr) (li ci : Nat) (pl r0 r1 r2 r3 r4 r5 r6 r7 : Int) (M O : Value) (w : World) :
    Calls Tryd.prog 29 #[.agg #[.int .i64 mem, .int .i64 stk, .int .i64 inp, .slice Ad ld cd, .slice Af lf cf, .slice Ac lc cc], .slice Ai li ci, .agg #[.int .i64 pl, .int .u64 r0, .int .u64 r1, .int .u64 r2, .int .u64 r3, .int .u64 r4, .int .u64 r5, .int .u64 r6, .int .u64 r7, M, O]] w fun e w' => ∃ g, e = .returned (.pointer (some ⟨g, 0, none⟩)) ∧ w.heap.size ≤ g ∧ RnB w' g #[.int .i64 mem, .int .i64 stk, .int .i64 inp, .slice Ad ld cd, .slice Af lf cf, .slice Ac lc cc, .slice Ai li ci, .int .i64 pl, .int .u64 r0, .int .u64 r1, .int .u64 r2, .int .u64 r3, .int .u64 r4, .int .u64 r5, .int .u64 r6, .int .u64 r7, M, O, .int .i64 0, .func (.func 68) #[] #[], .func (.func 69) #[] #[], .func (.func 70) #[] #[], .func (.func 71) #[] #[], .func (.func 71) #[] #[], .func (.func 71) #[] #[], .func (.func 72) #[] #[], .func (.func 72) #[] #[], .func (.func 71) #[] #[], .func (.func 71) #[] #[], .func (.func 71) #[] #[], .func (.func 71) #[] #[], .func (.func 71) #[] #[], .func (.func 71) #[] #[], .func (.func 71) #[] #[], .func (.func 71) #[] #[], .func (.func 71) #[] #[], .func (.func 73) #[] #[], .func (.func 74) #[] #[], .func (.func 75) #[] #[], .func (.func 76) #[] #[], .func (.func 77) #[] #[], .func (.func 78) #[] #[], .func (.func 79) #[] #[], .func (.func 80) #[] #[], .func (.func 81) #[] #[]] ∧ Below w.heap.size w w' := by
  go_enter Tryd.func29, Tryd.ntmps29
  go_wp2_with fail
  have hw : Below w.heap.size w ((w.alloc (.cells #[.int .i64 mem, .int .i64 stk, .int .i64 inp, .slice Ad ld cd, .slice Af lf cf, .slice Ac lc cc] 26)).alloc (.cells #[.int .i64 pl, .int .u64 r0, .int .u64 r1, .int .u64 r2, .int .u64 r3, .int .u64 r4, .int .u64 r5, .int .u64 r6, .int .u64 r7, M, O] 43)) := ((Below.refl _ _).alloc (Nat.le_refl _) _).alloc (by simp) _
  have h1 : ((w.alloc (.cells #[.int .i64 mem, .int .i64 stk, .int .i64 inp, .slice Ad ld cd, .slice Af lf cf, .slice Ac lc cc] 26)).alloc (.cells #[.int .i64 pl, .int .u64 r0, .int .u64 r1, .int .u64 r2, .int .u64 r3, .int .u64 r4, .int .u64 r5, .int .u64 r6, .int .u64 r7, M, O] 43)).heap[w.heap.size]? = some (.cells #[.int .i64 mem, .int .i64 stk, .int .i64 inp, .slice Ad ld cd, .slice Af lf cf, .slice Ac lc cc] 26 (0, 0)) := ((Below.box _ _).block _ (by simp)).trans (heap_newM rfl)
  have h2 : ((w.alloc (.cells #[.int .i64 mem, .int .i64 stk, .int .i64 inp, .slice Ad ld cd, .slice Af lf cf, .slice Ac lc cc] 26)).alloc (.cells #[.int .i64 pl, .int .u64 r0, .int .u64 r1, .int .u64 r2, .int .u64 r3, .int .u64 r4, .int .u64 r5, .int .u64 r6, .int .u64 r7, M, O] 43)).heap[w.heap.size + 1]? = some (.cells #[.int .i64 pl, .int .u64 r0, .int .u64 r1, .int .u64 r2, .int .u64 r3, .int .u64 r4, .int .u64 r5, .int .u64 r6, .int .u64 r7, M, O] 43 (0, 0)) := heap_newM (by simp)
  have hz : ((w.alloc (.cells #[.int .i64 mem, .int .i64 stk, .int .i64 inp, .slice Ad ld cd, .slice Af lf cf, .slice Ac lc cc] 26)).alloc (.cells #[.int .i64 pl, .int .u64 r0, .int .u64 r1, .int .u64 r2, .int .u64 r3, .int .u64 r4, .int .u64 r5, .int .u64 r6, .int .u64 r7, M, O] 43)).heap.size = w.heap.size + 2 := by simp
  generalize (w.alloc (.cells #[.int .i64 mem, .int .i64 stk, .int .i64 inp, .slice Ad ld cd, .slice Af lf cf, .slice Ac lc cc] 26)).alloc (.cells #[.int .i64 pl, .int .u64 r0, .int .u64 r1, .int .u64 r2, .int .u64 r3, .int .u64 r4, .int .u64 r5, .int .u64 r6, .int .u64 r7, M, O] 43) = w1 at *
  have HW := Lib.hid hw
  have H1 := Lib.hid h1
  have H2 := Lib.hid h2
  have HZ := Lib.hid hz
  clear hw h1 h2 hz
  refine wp_region_held_drew (S := fun W => Below w1.heap.size w1 W) (by kernel_rfl) (Below.refl _ _).drew (fun hHeld => ?_)
  refine wpAnyH_take (i := 0) (v := .agg #[.int .i64 mem, .int .i64 stk, .int .i64 inp, .slice Ad ld cd, .slice Af lf cf, .slice Ac lc cc]) rfl (by kernel_rfl) (by kernel_rfl) (by kernel_rfl) (fun _ _ _ h => h) (Or.inl ⟨by rfl, fun w9 hSw => ?_⟩) hHeld ?_
  · (try dsimp only at hSw)
    have q0 := cells_below hSw (row_cell H1.out 0) (by have := HZ.out; omega)
    have q1 := cells_below hSw (row_cell H1.out 1) (by have := HZ.out; omega)
    have q2 := cells_below hSw (row_cell H1.out 2) (by have := HZ.out; omega)
    have q3 := cells_below hSw (row_cell H1.out 3) (by have := HZ.out; omega)
    have q4 := cells_below hSw (row_cell H1.out 4) (by have := HZ.out; omega)
    have q5 := cells_below hSw (row_cell H1.out 5) (by have := HZ.out; omega)
    simp at q0 q1 q2 q3 q4 q5
    go_simp
  try simp only [List.getElem_toArray, List.getElem_cons_succ, List.getElem_cons_zero, Act.put, List.setIfInBounds_toArray, List.set_cons_zero, List.set_cons_succ]
  refine wpAnyH_take (i := 1) (v := .slice Ai li ci) rfl (by kernel_rfl) (by kernel_rfl) (by kernel_rfl) (fun _ _ _ h => h) (Or.inl ⟨by rfl, fun w9 hSw => ?_⟩) hHeld ?_
  · (try dsimp only at hSw)
    go_simp
  try simp only [List.getElem_toArray, List.getElem_cons_succ, List.getElem_cons_zero, Act.put, List.setIfInBounds_toArray, List.set_cons_zero, List.set_cons_succ]
  refine wpAnyH_take (i := 2) (v := .agg #[.int .i64 pl, .int .u64 r0, .int .u64 r1, .int .u64 r2, .int .u64 r3, .int .u64 r4, .int .u64 r5, .int .u64 r6, .int .u64 r7, M, O]) rfl (by kernel_rfl) (by kernel_rfl) (by kernel_rfl) (fun _ _ _ h => h) (Or.inl ⟨by rfl, fun w9 hSw => ?_⟩) hHeld ?_
  · (try dsimp only at hSw)
    have q0 := cells_below hSw (row_cell H2.out 0) (by have := HZ.out; omega)
    have q1 := cells_below hSw (row_cell H2.out 1) (by have := HZ.out; omega)
    have q2 := cells_below hSw (row_cell H2.out 2) (by have := HZ.out; omega)
    have q3 := cells_below hSw (row_cell H2.out 3) (by have := HZ.out; omega)
    have q4 := cells_below hSw (row_cell H2.out 4) (by have := HZ.out; omega)
    have q5 := cells_below hSw (row_cell H2.out 5) (by have := HZ.out; omega)
    have q6 := cells_below hSw (row_cell H2.out 6) (by have := HZ.out; omega)
    have q7 := cells_below hSw (row_cell H2.out 7) (by have := HZ.out; omega)
    have q8 := cells_below hSw (row_cell H2.out 8) (by have := HZ.out; omega)
    have q9 := cells_below hSw (row_cell H2.out 9) (by have := HZ.out; omega)
    have q10 := cells_below hSw (row_cell H2.out 10) (by have := HZ.out; omega)
    simp at q0 q1 q2 q3 q4 q5 q6 q7 q8 q9 q10
    go_simp
  try simp only [List.getElem_toArray, List.getElem_cons_succ, List.getElem_cons_zero, Act.put, List.setIfInBounds_toArray, List.set_cons_zero, List.set_cons_succ]
  refine wpAnyH_ready (rs := [3]) (by kernel_rfl) (by simp) ?_
  refine (AllReadyH.cons rfl (fun K hK => ?_) AllReadyH.nil)
  go_simp
  go_at_call 46
  refine (makeActions_any _).mono ?_
  rintro e v ⟨rfl, hbv⟩
  refine hK.out _ _ ((Below.refl _ _).drew.trans hbv) (fun hHeld => ?_)
  clear hK K
  try simp only [List.getElem_toArray, List.getElem_cons_succ, List.getElem_cons_zero, Act.put, List.setIfInBounds_toArray, List.set_cons_zero, List.set_cons_succ]
  refine wpAnyH_take (i := 4) (v := .agg #[.int .i64 mem, .int .i64 stk, .int .i64 inp, .slice Ad ld cd, .slice Af lf cf, .slice Ac lc cc, .slice Ai li ci, .int .i64 pl, .int .u64 r0, .int .u64 r1, .int .u64 r2, .int .u64 r3, .int .u64 r4, .int .u64 r5, .int .u64 r6, .int .u64 r7, M, O, .int .i64 0, .func (.func 68) #[] #[], .func (.func 69) #[] #[], .func (.func 70) #[] #[], .func (.func 71) #[] #[], .func (.func 71) #[] #[], .func (.func 71) #[] #[], .func (.func 72) #[] #[], .func (.func 72) #[] #[], .func (.func 71) #[] #[], .func (.func 71) #[] #[], .func (.func 71) #[] #[], .func (.func 71) #[] #[], .func (.func 71) #[] #[], .func (.func 71) #[] #[], .func (.func 71) #[] #[], .func (.func 71) #[] #[], .func (.func 71) #[] #[], .func (.func 73) #[] #[], .func (.func 74) #[] #[], .func (.func 75) #[] #[], .func (.func 76) #[] #[], .func (.func 77) #[] #[], .func (.func 78) #[] #[], .func (.func 79) #[] #[], .func (.func 80) #[] #[], .func (.func 81) #[] #[]]) rfl (by kernel_rfl) (by kernel_rfl) (by kernel_rfl) (fun _ _ _ h => h) (Or.inl ⟨by rfl, fun w9 hSw => ?_⟩) hHeld ?_
  · (try dsimp only at hSw)
    go_simp
  try simp only [List.getElem_toArray, List.getElem_cons_succ, List.getElem_cons_zero, Act.put, List.setIfInBounds_toArray, List.set_cons_zero, List.set_cons_succ]
  refine wpAnyH_ready (rs := [5]) (by kernel_rfl) (by simp) ?_
  refine (AllReadyH.cons rfl (fun K hK => ?_) AllReadyH.nil)
  go_simp
  have hB : Below w1.heap.size w1 (v.alloc (.cells #[.int .i64 mem, .int .i64 stk, .int .i64 inp, .slice Ad ld cd, .slice Af lf cf, .slice Ac lc cc, .slice Ai li ci, .int .i64 pl, .int .u64 r0, .int .u64 r1, .int .u64 r2, .int .u64 r3, .int .u64 r4, .int .u64 r5, .int .u64 r6, .int .u64 r7, M, O, .int .i64 0, .func (.func 68) #[] #[], .func (.func 69) #[] #[], .func (.func 70) #[] #[], .func (.func 71) #[] #[], .func (.func 71) #[] #[], .func (.func 71) #[] #[], .func (.func 72) #[] #[], .func (.func 72) #[] #[], .func (.func 71) #[] #[], .func (.func 71) #[] #[], .func (.func 71) #[] #[], .func (.func 71) #[] #[], .func (.func 71) #[] #[], .func (.func 71) #[] #[], .func (.func 71) #[] #[], .func (.func 71) #[] #[], .func (.func 71) #[] #[], .func (.func 73) #[] #[], .func (.func 74) #[] #[], .func (.func 75) #[] #[], .func (.func 76) #[] #[], .func (.func 77) #[] #[], .func (.func 78) #[] #[], .func (.func 79) #[] #[], .func (.func 80) #[] #[], .func (.func 81) #[] #[]] 71)) := hHeld.alloc hHeld.size _
  have hN : (v.alloc (.cells #[.int .i64 mem, .int .i64 stk, .int .i64 inp, .slice Ad ld cd, .slice Af lf cf, .slice Ac lc cc, .slice Ai li ci, .int .i64 pl, .int .u64 r0, .int .u64 r1, .int .u64 r2, .int .u64 r3, .int .u64 r4, .int .u64 r5, .int .u64 r6, .int .u64 r7, M, O, .int .i64 0, .func (.func 68) #[] #[], .func (.func 69) #[] #[], .func (.func 70) #[] #[], .func (.func 71) #[] #[], .func (.func 71) #[] #[], .func (.func 71) #[] #[], .func (.func 72) #[] #[], .func (.func 72) #[] #[], .func (.func 71) #[] #[], .func (.func 71) #[] #[], .func (.func 71) #[] #[], .func (.func 71) #[] #[], .func (.func 71) #[] #[], .func (.func 71) #[] #[], .func (.func 71) #[] #[], .func (.func 71) #[] #[], .func (.func 71) #[] #[], .func (.func 73) #[] #[], .func (.func 74) #[] #[], .func (.func 75) #[] #[], .func (.func 76) #[] #[], .func (.func 77) #[] #[], .func (.func 78) #[] #[], .func (.func 79) #[] #[], .func (.func 80) #[] #[], .func (.func 81) #[] #[]] 71)).heap[v.heap.size]? = some (.cells #[.int .i64 mem, .int .i64 stk, .int .i64 inp, .slice Ad ld cd, .slice Af lf cf, .slice Ac lc cc, .slice Ai li ci, .int .i64 pl, .int .u64 r0, .int .u64 r1, .int .u64 r2, .int .u64 r3, .int .u64 r4, .int .u64 r5, .int .u64 r6, .int .u64 r7, M, O, .int .i64 0, .func (.func 68) #[] #[], .func (.func 69) #[] #[], .func (.func 70) #[] #[], .func (.func 71) #[] #[], .func (.func 71) #[] #[], .func (.func 71) #[] #[], .func (.func 72) #[] #[], .func (.func 72) #[] #[], .func (.func 71) #[] #[], .func (.func 71) #[] #[], .func (.func 71) #[] #[], .func (.func 71) #[] #[], .func (.func 71) #[] #[], .func (.func 71) #[] #[], .func (.func 71) #[] #[], .func (.func 71) #[] #[], .func (.func 71) #[] #[], .func (.func 73) #[] #[], .func (.func 74) #[] #[], .func (.func 75) #[] #[], .func (.func 76) #[] #[], .func (.func 77) #[] #[], .func (.func 78) #[] #[], .func (.func 79) #[] #[], .func (.func 80) #[] #[], .func (.func 81) #[] #[]] 71 (0, 0)) := heap_newM rfl
  have hs := hHeld.size
  generalize v.alloc (.cells #[.int .i64 mem, .int .i64 stk, .int .i64 inp, .slice Ad ld cd, .slice Af lf cf, .slice Ac lc cc, .slice Ai li ci, .int .i64 pl, .int .u64 r0, .int .u64 r1, .int .u64 r2, .int .u64 r3, .int .u64 r4, .int .u64 r5, .int .u64 r6, .int .u64 r7, M, O, .int .i64 0, .func (.func 68) #[] #[], .func (.func 69) #[] #[], .func (.func 70) #[] #[], .func (.func 71) #[] #[], .func (.func 71) #[] #[], .func (.func 71) #[] #[], .func (.func 72) #[] #[], .func (.func 72) #[] #[], .func (.func 71) #[] #[], .func (.func 71) #[] #[], .func (.func 71) #[] #[], .func (.func 71) #[] #[], .func (.func 71) #[] #[], .func (.func 71) #[] #[], .func (.func 71) #[] #[], .func (.func 71) #[] #[], .func (.func 71) #[] #[], .func (.func 73) #[] #[], .func (.func 74) #[] #[], .func (.func 75) #[] #[], .func (.func 76) #[] #[], .func (.func 77) #[] #[], .func (.func 78) #[] #[], .func (.func 79) #[] #[], .func (.func 80) #[] #[], .func (.func 81) #[] #[]] 71) = w2 at *
  refine hK.out _ _ hB (fun hHeld => ?_)
  clear hK K
  try simp only [List.getElem_toArray, List.getElem_cons_succ, List.getElem_cons_zero, Act.put, List.setIfInBounds_toArray, List.set_cons_zero, List.set_cons_succ]
  refine wpAnyH_take (i := 6) (v := .pointer (some ⟨v.heap.size, 0, none⟩)) rfl (by kernel_rfl) (by kernel_rfl) (by kernel_rfl) (fun _ _ _ h => h) (Or.inl ⟨by rfl, fun w9 hSw => ?_⟩) hHeld ?_
  · (try dsimp only at hSw)
    go_simp
  try simp only [List.getElem_toArray, List.getElem_cons_succ, List.getElem_cons_zero, Act.put, List.setIfInBounds_toArray, List.set_cons_zero, List.set_cons_succ]
  refine wpAnyH_done (by kernel_rfl) ?_ _
  go_wp2
  go_ret
  exact ⟨v.heap.size, rfl, by have := HZ.out; omega, hN, HW.out.trans (hB.mono (by have := HZ.out; omega))⟩
end Go.Proofs.YtfhnigfghfmolaaDoor
namespace Go.Proofs.YtfhnigfghfmolaaDoor
set_option maxRecDepth 100000
open Go.RowKit

theorem u8_size : (Tryd.prog.info? 5).map (·.size) = some 1 := by kernel_rfl
theorem madeL (z : Value) (n : Nat) : madeCells #[z] n = (List.replicate n z).toArray := by
  refine Array.ext (by rw [size_madeCells]; simp) fun i h1 h2 => ?_
  simp [madeCells, Nat.mod_one]
theorem size43 (cs : Array Value) (h : cs.size = 11) : (Tryd.prog.info? 43).map (·.size) = some cs.size := by rw [h]; kernel_rfl
theorem store_st {ops : Array Oper} {rest : List Oper} {o : Oper} {a : Act} {w : World} {Q : Exit → Act → World → Prop} (x y : Operand) (g : Nat) (old cs : Array Value) (hr : w.heap[g]? = some (.cells old 43 (0, 0))) (hz : old.size = 11) (hgd : o.guard = none) (ho : o.op = .store 43 x y)
    (hx : a.eval x = .pointer (some ⟨g, 0, none⟩)) (hy : a.eval y = .agg cs) (hc : cs.size = 11) (h1 : cs.all (·.oneCell') = true)
    (h : wpList Tryd.prog ops Q rest (a.put o.dst undef) (w.setRow g cs)) : wpList Tryd.prog ops Q (o :: rest) a w :=
  wpList_store_row hgd 43 x y ho g cs hx hy 43 old hr (size43 cs hc) (by rw [hz, hc]) h1 h
theorem ret_st {fn : Func} {p : Tmp} {R : Ending → World → Prop} {a : Act} {w : World} (g : Nat) (cs : Array Value) (hr : w.heap[g]? = some (.cells cs 43 (0, 0))) (hc : cs.size = 11) (hf : fn.results = #[.cell p 43]) (hd : a.defers = []) (hp : a.tmps.getD p undef = .pointer (some ⟨g, 0, none⟩)) (hR : R (.returned (.agg cs)) w) :
    bodyPost Tryd.prog fn R .ret a w :=
  bodyPost_ret (results_cell_row hf a.tmps w g 43 cs (0, 0) _ hp hr Tryd.underlying43 rfl (size43 cs hc)) hd hR
/-- The memory at the start. -/
def Mc.mem0 (p : Im.Pic) : List Int := p.ds ++ List.replicate (p.mem.toNat - p.ds.length) 0

set_option maxRecDepth 20000 in
set_option maxHeartbeats 3200000 in
theorem start_any (mem stk inp : Int) (Ad : Option Addr) (ld cd : Nat) (Af : Option Addr) (lf cf : Nat) (Ac : Option Addr) (lc cc : Nat) (p : Im.Pic) (w : World) (hi : ImAt w Ad ld cd Af lf cf Ac lc cc p) (e0 : p.mem = mem) (m0 : 0 ≤ mem) (m1 : mem ≤ 64) (hd : (ld : Int) ≤ mem) :
    Calls Tryd.prog 22 #[.agg #[.int .i64 mem, .int .i64 stk, .int .i64 inp, .slice Ad ld cd, .slice Af lf cf, .slice Ac lc cc]] w fun e w' => ∃ g n, e = .returned (.agg #[.int .i64 0, .int .u64 0, .int .u64 0, .int .u64 0, .int .u64 0, .int .u64 0, .int .u64 0, .int .u64 0, .int .u64 0, .slice (some ⟨g, 0, none⟩) n n, .slice none 0 0]) ∧ w.heap.size ≤ g ∧ mem = n ∧ w'.heap[g]? = some (.cells ((Mc.mem0 p).map (Value.int .u8)).toArray 5 (0, 0)) ∧ Below w.heap.size w w' := by
  obtain ⟨n, hn⟩ := Int.eq_ofNat_of_zero_le m0
  subst hn
  have hbd := hi.d
  have hmk : ∀ W : World, (Instr.makeSlice 22 (.int .i64 (n : Int)) (.int .i64 (n : Int))).run Tryd.prog W = .ok (.slice (some ⟨W.heap.size, 0, none⟩) n n) (W.alloc (.cells (madeCells #[.int .u8 0] n) 5)) := fun W =>
    run_make_row' 22 5 (.int .u8 0) 1 Tryd.underlying22 u8_info rfl .i64 .i64 n (by omega) (by omega) W
  have hmx : max (n : Int) 0 = n := by omega
  have hmn : min (n : Int) 64 = n := by omega
  have HI := Lib.hid hi
  have HD := Lib.hid hbd
  clear hi hbd
  go_enter Tryd.func22, Tryd.ntmps22
  go_upto_region 2 with (fail)
  have h3 := three w (.cells #[.int .i64 (n : Int), .int .i64 stk, .int .i64 inp, .slice Ad ld cd, .slice Af lf cf, .slice Ac lc cc] 26) (.cells #[.int .i64 0, .int .u64 0, .int .u64 0, .int .u64 0, .int .u64 0, .int .u64 0, .int .u64 0, .int .u64 0, .int .u64 0, .slice none 0 0, .slice none 0 0] 43) (.cells (madeCells #[.int .u8 0] n) 5)
  have hB : Below w.heap.size w (((w.alloc (.cells #[.int .i64 (n : Int), .int .i64 stk, .int .i64 inp, .slice Ad ld cd, .slice Af lf cf, .slice Ac lc cc] 26)).alloc (.cells #[.int .i64 0, .int .u64 0, .int .u64 0, .int .u64 0, .int .u64 0, .int .u64 0, .int .u64 0, .int .u64 0, .int .u64 0, .slice none 0 0, .slice none 0 0] 43)).alloc (.cells (madeCells #[.int .u8 0] n) 5)) := (((Below.refl _ _).alloc (Nat.le_refl _) _).alloc (by simp) _).alloc (by simp; omega) _
  have hz : (((w.alloc (.cells #[.int .i64 (n : Int), .int .i64 stk, .int .i64 inp, .slice Ad ld cd, .slice Af lf cf, .slice Ac lc cc] 26)).alloc (.cells #[.int .i64 0, .int .u64 0, .int .u64 0, .int .u64 0, .int .u64 0, .int .u64 0, .int .u64 0, .int .u64 0, .int .u64 0, .slice none 0 0, .slice none 0 0] 43)).alloc (.cells (madeCells #[.int .u8 0] n) 5)).heap.size = w.heap.size + 3 := by simp
  generalize ((w.alloc (.cells #[.int .i64 (n : Int), .int .i64 stk, .int .i64 inp, .slice Ad ld cd, .slice Af lf cf, .slice Ac lc cc] 26)).alloc (.cells #[.int .i64 0, .int .u64 0, .int .u64 0, .int .u64 0, .int .u64 0, .int .u64 0, .int .u64 0, .int .u64 0, .int .u64 0, .slice none 0 0, .slice none 0 0] 43)).alloc (.cells (madeCells #[.int .u8 0] n) 5) = w3 at *
  rw [madeL] at h3
  have HB := Lib.hid hB
  have H3 := Lib.hid h3
  have HZ := Lib.hid hz
  have HDL := Lib.hid HD.out.hlen
  have q3 := row_cell h3.1 3
  simp at q3
  have hsl := (HD.out.below hB).sl
  have hp : 0 < (p.ds.map (Value.int .u8)).length → some (⟨w.heap.size + 1 + 1, 0, none⟩ : Addr) = some ⟨w.heap.size + 1 + 1, 0, none⟩ ∧ ∃ ad, Ad = some ad ∧ ∀ j v, (p.ds.map (Value.int .u8))[j]? = some v → w3.cell? (ad.add j) = some v := fun h0 => ⟨rfl, by
    obtain ⟨b, o, e, _, hc⟩ := hsl.2 (by rw [← hsl.1]; exact h0)
    exact ⟨_, e, hc⟩⟩
  have HP := Lib.hid hp
  have hmin : Nat.min ld n = ld := Nat.min_eq_left (by omega)
  have hl1 : (p.ds.map (Value.int .u8)).length = Nat.min ld n := by rw [hmin, List.length_map]; exact HDL.out
  have hl2 : 0 + (p.ds.map (Value.int .u8)).length ≤ (List.replicate n (Value.int .u8 0)).length := by simp; have := HDL.out; omega
  have HL1 := Lib.hid hl1
  have HL2 := Lib.hid hl2
  clear hB h3 hz hmk hmx hmn hmin hsl hp hl1 hl2
  go_upto_region 3 with (
    with_reducible change wpList _ _ _ ({ dst := some 12, op := _, type := _, pos := _, after := _, guard := _ } :: _) _ _
    refine wpList_copy_splice (w := w3) rfl (.tmp 9) (.tmp 11) 22 22 rfl 5 Tryd.underlying22 u8_size (some ⟨w.heap.size + 1 + 1, 0, none⟩) Ad n n ld cd rfl rfl (w.heap.size + 1 + 1) 0 (List.replicate n (.int .u8 0)) 5 H3.out.2.2 (p.ds.map (Value.int .u8)) HL1.out HP.out HL2.out (one_cell _) (w.heap.size + 1 + 1) w3 (Below.refl _ _) (Nat.le_refl _) ?_
    intro w4 hw4 hb4)
  have hst : w4.heap[w.heap.size + 1]? = some (.cells #[.int .i64 0, .int .u64 0, .int .u64 0, .int .u64 0, .int .u64 0, .int .u64 0, .int .u64 0, .int .u64 0, .int .u64 0, .slice none 0 0, .slice none 0 0] 43 (0, 0)) := (hb4.block _ (by omega)).trans H3.out.2.1
  have hsp : splice (List.replicate n (Value.int .u8 0)) 0 (p.ds.map (Value.int .u8)) = (Mc.mem0 p).map (Value.int .u8) := by
    unfold splice Mc.mem0
    rw [e0]
    simp
  rw [hsp] at hw4
  have HS := Lib.hid hst
  have HB4 := Lib.hid (HB.out.trans (hb4.mono (by omega)))
  clear hst hb4 hsp q3
  have h1c : (#[.int .i64 0, .int .u64 0, .int .u64 0, .int .u64 0, .int .u64 0, .int .u64 0, .int .u64 0, .int .u64 0, .int .u64 0, .slice (some ⟨w.heap.size + 1 + 1, 0, none⟩) n n, .slice none 0 0] : Array Value).all (·.oneCell') = true := by simp [Value.oneCell']
  have H1C := Lib.hid h1c
  clear h1c
  go_wp2_with (first | (with_reducible refine store_st (.tmp 2) (.tmp 14) _ _ #[.int .i64 0, .int .u64 0, .int .u64 0, .int .u64 0, .int .u64 0, .int .u64 0, .int .u64 0, .int .u64 0, .int .u64 0, .slice (some ⟨w.heap.size + 1 + 1, 0, none⟩) n n, .slice none 0 0] HS.out rfl rfl rfl rfl rfl rfl H1C.out ?_) | fail)
  refine ret_st (w.heap.size + 1) #[.int .i64 0, .int .u64 0, .int .u64 0, .int .u64 0, .int .u64 0, .int .u64 0, .int .u64 0, .int .u64 0, .int .u64 0, .slice (some ⟨w.heap.size + 1 + 1, 0, none⟩) n n, .slice none 0 0] (setRow_heap _ _ _ _ _ _ HS.out) rfl rfl rfl rfl ?_
  refine ⟨w.heap.size + 1 + 1, n, rfl, by omega, rfl, ?_, below_setRowM HB4.out (by omega) _⟩
  rw [setRow_other _ _ _ _ (by omega)]
  exact hw4.out
end Go.Proofs.YtfhnigfghfmolaaDoor
namespace Go.Proofs.YtfhnigfghfmolaaDoor
set_option maxRecDepth 100000
theorem Mc.app_nn (op a x y : Int) : 0 ≤ Wd.app op a x y := by
  have h := Wd.cut_lo a
  have hm := Wd.cut_hi_le a x
  have hd : ∀ o, 0 ≤ Wd.dvd o a (Wd.cut a x) (Wd.cut a y) := fun o => by
    unfold Wd.dvd
    have := Wd.msk_lo a
    split <;> split
    · exact h x
    · exact Int.emod_nonneg _ (by omega)
    · omega
    · exact Int.ediv_nonneg (h x) (h y)
  have he : ∀ p q, 0 ≤ Wd.eqv p q := fun p q => by unfold Wd.eqv; split <;> omega
  have hl : ∀ p q, 0 ≤ Wd.ltv p q := fun p q => by unfold Wd.ltv; split <;> omega
  have ite : ∀ {c : Prop} [Decidable c] {p q : Int}, 0 ≤ p → 0 ≤ q → 0 ≤ (if c then p else q) := fun h1 h2 => by split <;> assumption
  unfold Wd.app
  refine ite ?_ (ite ?_ (ite ?_ (ite ?_ (ite ?_ (ite ?_ (ite ?_ (ite ?_ (ite ?_ (ite ?_ (ite ?_ (ite ?_ (ite ?_ (ite ?_ (ite ?_ ?_))))))))))))))
  · omega
  · exact h _
  · exact h _
  · exact h _
  · exact hd _
  · exact hd _
  · exact Int.natCast_nonneg _
  · exact Int.natCast_nonneg _
  · exact Int.natCast_nonneg _
  · exact h _
  · exact Int.ediv_nonneg (h _) (Int.le_of_lt (Wd.pw_pos _))
  · exact h _
  · exact he _ _
  · exact hl _ _
  · exact hl _ _
  · exact Int.le_refl 0
theorem Mc.app_hi (op a x y : Int) : Wd.app op a x y < 18446744073709551616 := by
  have := Wd.app_le op a x y; have := Wd.msk_hi a; omega
namespace Mc
theorem Ok.one {p : Im.Pic} {s : St} (hR : R p) (h : Ok p s) : Ok1 p s := ⟨h.p0, h.p1, h.rl, h.rr, h.mb, by have := h.ol; have := hR.cnt.2.1; omega⟩
/-- Every number of the code is a word. -/
def Wc (p : Im.Pic) : Prop := ∀ i, 0 ≤ (p.cs.getD i Im.z5).m ∧ (p.cs.getD i Im.z5).m < 18446744073709551616
theorem Ok.wr {p : Im.Pic} {s : St} {i : Im.I5} {x nx : Int} (h : Ok p s) (x0 : 0 ≤ x) (x1 : x < 18446744073709551616) (n0 : 0 ≤ nx) (n1 : nx < p.cs.length) : Ok p { wr s i x with pl := nx } :=
  ⟨n0, n1, by show (s.rg.set _ _).length = 8; rw [List.length_set]; exact h.rl, fun y hy => by
    rcases set_mem hy with hy | rfl
    · exact h.rr y hy
    · exact ⟨x0, x1⟩, h.mb, h.ml, h.ol, h.oo⟩
theorem Ok.pl {p : Im.Pic} {s : St} {nx : Int} (h : Ok p s) (n0 : 0 ≤ nx) (n1 : nx < p.cs.length) : Ok p { s with pl := nx } := ⟨n0, n1, h.rl, h.rr, h.mb, h.ml, h.ol, h.oo⟩
theorem le_lt (l : List Int) (h : ∀ x ∈ l, 0 ≤ x ∧ x ≤ 255) (hl : l.length ≤ 8) : 0 ≤ le l ∧ le l < 18446744073709551616 := by
  obtain ⟨h1, h2⟩ := le_rng l h
  refine ⟨h1, ?_⟩
  have h3' : 256 ^ l.length ≤ 256 ^ 8 := Nat.pow_le_pow_right (by decide) hl
  have h3 : (256 : Int) ^ l.length ≤ 256 ^ 8 := by exact_mod_cast h3'
  have h4 : (256 : Int) ^ 8 = 18446744073709551616 := by decide
  omega
theorem isB_at {l : List Int} (h : Cd.isB l) (k : Nat) : 0 ≤ l.getD k 0 ∧ l.getD k 0 < 18446744073709551616 := by have := h k; omega
/-- Where an instruction of a right image goes on, it may. -/
theorem goes_in {p : Im.Pic} (h : R p) {k : Nat} (hk : k < p.cs.length) (hg : Cd.goes (p.cs.getD k Im.z5).op = true) : (k : Int) + 1 < p.cs.length := by
  have hC := h.cnt
  have hP := hC.2.2.2.2.2.2
  obtain ⟨h1, h2, h3⟩ := Im.own_spec hP hC.2.2.2.2.1.1 (p := (k : Int)) (by omega) (by omega)
  have hok := h.ok k hk
  unfold Im.okB at hok
  simp only [Bool.and_eq_true, hg, Bool.true_and, Bool.not_eq_true', decide_eq_false_iff_not] at hok
  have ht := hP.till_le h1
  have := hok.2
  omega
theorem fun_in {p : Im.Pic} (h : R p) {k : Nat} (hk : k < p.fs.length) : 0 ≤ p.fs.getD k 0 ∧ p.fs.getD k 0 < p.cs.length := by
  have hP := h.cnt.2.2.2.2.2.2
  exact ⟨hP.nonneg hk, Int.lt_of_lt_of_le (hP.lt_till hk) (hP.till_le hk)⟩

def Kp (p : Im.Pic) (r : St × Int × Int) : Prop := r.2.2 = 0 → Ok p { r.1 with pl := r.2.1 }
theorem kp_ite {p : Im.Pic} {c : Prop} [Decidable c] {x y : St × Int × Int} (h : c → Kp p x) (k : ¬ c → Kp p y) : Kp p (if c then x else y) := by
  split
  · rename_i e; exact h e
  · rename_i e; exact k e
theorem kp_end {p : Im.Pic} {s : St} {nx e : Int} (h : e ≠ 0) : Kp p (s, nx, e) := fun h0 => absurd h0 h
theorem act_ok {p : Im.Pic} {xs : List Int} {s : St} {k : Nat} (hR : R p) (hW : Wc p) (hx : Cd.isB xs) (hl : xs.length < 1000) (h : Ok p s) (hkl : k < p.cs.length) : Kp p (act p xs (p.cs.getD k Im.z5) s (k + 1)) := by
  have hbad := hR.bad k hkl
  have hld := right_leads hR hkl
  have hgo := goes_in hR hkl
  have hw := hW k
  have hrv := rv_rng h.rr
  have hfi := fun q => fun_in (p := p) (k := q) hR
  generalize p.cs.getD k Im.z5 = i at *
  obtain ⟨o0, o1, a0, a1, b0, b1, c0, c1⟩ := Cd.bad_none (show Cd.bad i.op i.a i.b i.c i.m = -1 from hbad)
  have hnx : i.op ≠ 0 → i.op ≠ 21 → i.op ≠ 24 → i.op ≠ 25 → 0 ≤ (k : Int) + 1 ∧ (k : Int) + 1 < p.cs.length := fun h1 h2 h3 h4 => ⟨by omega, hgo (by
    simp [Cd.goes, Cd.exi, h1, h2, h3, h4]; omega)⟩
  have st : ∀ (x : Int), 0 ≤ x → x < 18446744073709551616 → i.op ≠ 0 → i.op ≠ 21 → i.op ≠ 24 → i.op ≠ 25 → Kp p (wr s i x, (k : Int) + 1, 0) := fun x x0 x1 h1 h2 h3 h4 _ => h.wr x0 x1 (hnx h1 h2 h3 h4).1 (hnx h1 h2 h3 h4).2
  unfold act
  refine kp_ite (fun e => kp_end (by decide)) (fun e0 => ?_)
  refine kp_ite (fun e => st _ hw.1 hw.2 (by omega) (by omega) (by omega) (by omega)) (fun e1 => ?_)
  refine kp_ite (fun e => st _ (hrv _).1 (hrv _).2 (by omega) (by omega) (by omega) (by omega)) (fun e2 => ?_)
  refine kp_ite (fun e => kp_ite (fun ht => ?_) (fun _ => kp_end (by decide))) (fun e17 => ?_)
  · have := le_lt ((s.mm.drop (ad s i).toNat).take i.c.toNat) (fun x hx => isB_mem h.mb (List.mem_of_mem_drop (List.mem_of_mem_take hx))) (by rw [List.length_take]; omega)
    exact st _ this.1 this.2 (by omega) (by omega) (by omega) (by omega)
  refine kp_ite (fun e => kp_ite (fun ht _ => ?_) (fun _ => kp_end (by decide))) (fun e18 => ?_)
  · have hn := hnx (by omega) (by omega) (by omega) (by omega)
    have ht := of_decide_eq_true ht
    have hml := h.ml
    have had : 0 ≤ ad s i := Int.emod_nonneg _ (by decide)
    exact ⟨hn.1, hn.2, h.rl, h.rr, sav_isB h.mb, by show ((sav _ _ _ _).length : Int) = _; rw [sav_len (by omega)]; exact h.ml, h.ol, h.oo⟩
  refine kp_ite (fun e => kp_ite (fun ht => ?_) (fun _ => kp_end (by decide))) (fun e19 => ?_)
  · have := isB_at hx (ad s i).toNat
    exact st _ this.1 this.2 (by omega) (by omega) (by omega) (by omega)
  refine kp_ite (fun e => st _ (by omega) (by omega) (by omega) (by omega) (by omega) (by omega)) (fun e20 => ?_)
  refine kp_ite (fun e _ => h.pl hw.1 (hld.1 (.inl e))) (fun e21 => ?_)
  refine kp_ite (fun e => kp_ite (fun _ _ => ?_) (fun _ _ => h.pl hw.1 (hld.1 (.inr e)))) (fun e22 => ?_)
  · have hn := hnx (by omega) (by omega) (by omega) (by omega)
    exact h.pl hn.1 hn.2
  refine kp_ite (fun e => kp_ite (fun ht _ => ?_) (fun _ => kp_end (by decide))) (fun e23 => ?_)
  · have hn := hnx (by omega) (by omega) (by omega) (by omega)
    have hm := hld.2 e
    have hf := hfi i.m.toNat (by omega)
    exact ⟨hf.1, hf.2, h.rl, h.rr, h.mb, h.ml, by show ((s.op ++ [_]).length : Int) ≤ _; simp; omega, fun x hx => by
      rcases List.mem_append.1 hx with hx | hx
      · exact h.oo x hx
      · rw [List.mem_singleton.1 hx]; exact hn⟩
  refine kp_ite (fun e => kp_ite (fun _ => kp_end (by decide)) (fun hne _ => ?_)) (fun e24 => ?_)
  · have hz : s.op.getLastD 0 ∈ s.op := by
      rw [List.getLastD_eq_getLast?, List.getLast?_eq_some_getLast hne]
      exact List.getLast_mem hne
    have hz := h.oo _ hz
    exact ⟨hz.1, hz.2, h.rl, h.rr, h.mb, h.ml, by show ((s.op.dropLast).length : Int) ≤ _; have := h.ol; simp; omega, fun x hx => h.oo x (List.dropLast_subset _ hx)⟩
  refine kp_ite (fun e => kp_end (by decide)) (fun e25 => ?_)
  refine kp_ite (fun e => kp_end (by decide)) (fun _ => ?_)
  exact st _ (app_nn _ _ _ _) (app_hi _ _ _ _) (by omega) (by omega) (by omega) (by omega)
theorem Ok.step {p : Im.Pic} {xs : List Int} {s : St} (hR : R p) (hW : Wc p) (hx : Cd.isB xs) (hl : xs.length < 1000) (h : Ok p s) : Ok p (step p xs s).1 := by
  obtain ⟨k, hk⟩ := Int.eq_ofNat_of_zero_le h.p0
  have hkl : k < p.cs.length := by have := h.p1; omega
  have hi : ins p s = p.cs.getD k Im.z5 := by unfold ins; rw [hk]; simp
  unfold Mc.step
  rw [hi, hk]
  split
  · rename_i h0
    exact act_ok hR hW hx hl h hkl h0
  · exact h
theorem mem0_ok {p : Im.Pic} (hR : R p) (hd : Cd.isB p.ds) : Ok p (start p) := by
  obtain ⟨m1, m2, m3, m4, m5, m6, m7⟩ := hR.cnt
  refine ⟨Int.le_refl _, by show (0 : Int) < _; omega, by simp [start], fun x hx => ?_, isB_of fun x hx => ?_, ?_, ?_, fun x hx => ?_⟩
  · rw [List.eq_of_mem_replicate (show x ∈ List.replicate 8 0 from hx)]; decide
  · rcases List.mem_append.1 (show x ∈ p.ds ++ List.replicate _ 0 from hx) with hx | hx
    · exact isB_mem hd hx
    · rw [List.eq_of_mem_replicate hx]; decide
  · show (((p.ds ++ List.replicate _ 0).length : Nat) : Int) = p.mem
    simp; omega
  · show ((([] : List Int).length : Nat) : Int) ≤ p.stk
    simp; omega
  · exact absurd (show x ∈ ([] : List Int) from hx) (by simp)
end Mc
end Go.Proofs.YtfhnigfghfmolaaDoor
namespace Go.Proofs.YtfhnigfghfmolaaDoor
set_option maxRecDepth 100000
open Go.RowKit

theorem Rc.new (H : Hd) (M O : Value) (pl r0 r1 r2 r3 r4 r5 r6 r7 : Int) (mm op : List Int) : Rc H M O ⟨pl, [r0, r1, r2, r3, r4, r5, r6, r7], mm, op⟩ 0 #[.int .i64 H.mem, .int .i64 H.stk, .int .i64 H.inp, .slice H.Ad H.ld H.cd, .slice H.Af H.lf H.cf, .slice H.Ac H.lc H.cc, .slice H.Ai H.li H.ci, .int .i64 pl, .int .u64 r0, .int .u64 r1, .int .u64 r2, .int .u64 r3, .int .u64 r4, .int .u64 r5, .int .u64 r6, .int .u64 r7, M, O, .int .i64 0, .func (.func 68) #[] #[], .func (.func 69) #[] #[], .func (.func 70) #[] #[], .func (.func 71) #[] #[], .func (.func 71) #[] #[], .func (.func 71) #[] #[], .func (.func 72) #[] #[], .func (.func 72) #[] #[], .func (.func 71) #[] #[], .func (.func 71) #[] #[], .func (.func 71) #[] #[], .func (.func 71) #[] #[], .func (.func 71) #[] #[], .func (.func 71) #[] #[], .func (.func 71) #[] #[], .func (.func 71) #[] #[], .func (.func 71) #[] #[], .func (.func 73) #[] #[], .func (.func 74) #[] #[], .func (.func 75) #[] #[], .func (.func 76) #[] #[], .func (.func 77) #[] #[], .func (.func 78) #[] #[], .func (.func 79) #[] #[], .func (.func 80) #[] #[], .func (.func 81) #[] #[]] := by
  refine ⟨rfl, rfl, rfl, rfl, rfl, rfl, rfl, rfl, rfl, fun k hk => ?_, rfl, rfl, rfl, fun k hk => ?_⟩
  · match k, hk with
    | 0, _ | 1, _ | 2, _ | 3, _ | 4, _ | 5, _ | 6, _ | 7, _ => rfl
  · match k, hk with
    | 0, _ | 1, _ | 2, _ | 3, _ | 4, _ | 5, _ | 6, _ | 7, _ | 8, _ | 9, _ | 10, _ | 11, _ | 12, _ | 13, _ | 14, _ | 15, _ | 16, _ | 17, _ | 18, _ | 19, _ | 20, _ | 21, _ | 22, _ | 23, _ | 24, _ | 25, _ => rfl
    | k + 26, hk => exact absurd hk (by omega)

/-- A trace's value, and what a run answers. -/
abbrev trC (PV : Value) (en : Int) (rg : List Int) (M : Value) : Array Value := #[PV, .int .i64 en, .int .u64 (rg.getD 0 0), .int .u64 (rg.getD 1 0), .int .u64 (rg.getD 2 0), .int .u64 (rg.getD 3 0), .int .u64 (rg.getD 4 0), .int .u64 (rg.getD 5 0), .int .u64 (rg.getD 6 0), .int .u64 (rg.getD 7 0), M]
def RunP (r : List Int × Int × List Int × List Int × Int) (w : World) (e : Ending) (w' : World) : Prop :=
  ∃ PV M, e = .returned (.tuple #[.agg (trC PV r.2.1 r.2.2.1 M), .int .i64 r.2.2.2.2]) ∧ w'.ownsRow w.heap.size 3 1 PV r.1.length (r.1.map (Value.int .i64)) ∧ w'.ownsRow w.heap.size 5 1 M r.2.2.2.1.length (r.2.2.2.1.map (Value.int .u8)) ∧ Below w.heap.size w w'
def Mc.zero8 : List Int := [0, 0, 0, 0, 0, 0, 0, 0]
/-- Path, end, registers, memory, error. -/
def Mc.answer (p : Im.Pic) (xs : List Int) (steps : Int) : List Int × Int × List Int × List Int × Int :=
  if Im.chk p ≠ 0 then ([], 0, Mc.zero8, [], Im.chk p)
  else if p.inp < xs.length then ([], 0, Mc.zero8, [], 16)
  else ((Mc.run p xs steps).1, (Mc.run p xs steps).2.2, (Mc.run p xs steps).2.1.rg, (Mc.run p xs steps).2.1.mm, 0)

theorem size32 (cs : Array Value) (h : cs.size = 11) : (Tryd.prog.info? 32).map (·.size) = some cs.size := by rw [h]; kernel_rfl
theorem store_tr {ops : Array Oper} {rest : List Oper} {o : Oper} {a : Act} {w : World} {Q : Exit → Act → World → Prop} (x y : Operand) (g : Nat) (old cs : Array Value) (hr : w.heap[g]? = some (.cells old 32 (0, 0))) (hz : old.size = 11) (hgd : o.guard = none) (ho : o.op = .store 32 x y)
    (hx : a.eval x = .pointer (some ⟨g, 0, none⟩)) (hy : a.eval y = .agg cs) (hc : cs.size = 11) (h1 : cs.all (·.oneCell') = true)
    (h : wpList Tryd.prog ops Q rest (a.put o.dst undef) (w.setRow g cs)) : wpList Tryd.prog ops Q (o :: rest) a w :=
  wpList_store_row hgd 32 x y ho g cs hx hy 32 old hr (size32 cs hc) (by rw [hz, hc]) h1 h
theorem ret_tr {fn : Func} {p q : Tmp} {R : Ending → World → Prop} {a : Act} {w : World} (g : Nat) (cs : Array Value) (v : Value) (hr : w.heap[g]? = some (.cells cs 32 (0, 0))) (hc : cs.size = 11) (hf : fn.results = #[.cell p 32, .tmp q]) (hd : a.defers = []) (hp : a.tmps.getD p undef = .pointer (some ⟨g, 0, none⟩)) (hq : a.tmps.getD q undef = v) (hR : R (.returned (.tuple #[.agg cs, v])) w) :
    bodyPost Tryd.prog fn R .ret a w := by
  have hp' : a.tmps[p]?.getD undef = .pointer (some ⟨g, 0, none⟩) := by simpa using hp
  have hq' : a.tmps[q]?.getD undef = v := by simpa using hq
  refine bodyPost_ret (v := .tuple #[.agg cs, v]) ?_ hd hR
  simp [results, hf, hp', hq', asAddr, run_loadVar_row w g 32 32 cs (0, 0) _ hr Tryd.underlying32 rfl (size32 cs hc)]

set_option maxRecDepth 20000 in
set_option maxHeartbeats 6400000 in
theorem run_bad (H : Hd) (steps : Int) (w : World) (ho : Ops w) (HA : HdAt w H) (hc : Im.chk H.p ≠ 0) :
    Calls Tryd.prog 12 #[.agg #[.int .i64 H.mem, .int .i64 H.stk, .int .i64 H.inp, .slice H.Ad H.ld H.cd, .slice H.Af H.lf H.cf, .slice H.Ac H.lc H.cc], .slice H.Ai H.li H.ci, .int .i64 steps] w (RunP (Mc.answer H.p H.xs steps) w) := by
  have ea : Mc.answer H.p H.xs steps = ([], 0, Mc.zero8, [], Im.chk H.p) := by unfold Mc.answer; rw [if_pos hc]
  rw [ea]
  have hp := ho.pos
  have hen : ∀ W, Below w.heap.size w W → Calls Tryd.prog 28 #[.agg #[.int .i64 H.mem, .int .i64 H.stk, .int .i64 H.inp, .slice H.Ad H.ld H.cd, .slice H.Af H.lf H.cf, .slice H.Ac H.lc H.cc]] W fun e w' => ∃ A n cap, e = .returned (.tuple #[.slice A n cap, .int .i64 (Im.chk H.p)]) ∧ BySl w' A n cap (Im.out H.p) ∧ Below W.heap.size W w' := fun W hW =>
    encode_any _ _ _ _ _ _ _ _ _ _ _ _ H.p W (ho.below hW hp) (HA.img.below hW) HA.e0 HA.e1 HA.e2
  generalize Im.chk H.p = c at *
  have HEN := Lib.hid hen
  have hcn : (c != 0) = true := by simpa using hc
  clear hen ho HA hc ea
  go_enter Tryd.func12, Tryd.ntmps12
  go_wp2_with fail
  have hB : Below w.heap.size w ((w.alloc (.cells #[.int .i64 H.mem, .int .i64 H.stk, .int .i64 H.inp, .slice H.Ad H.ld H.cd, .slice H.Af H.lf H.cf, .slice H.Ac H.lc H.cc] 26)).alloc (.cells #[.slice none 0 0, .int .i64 0, .int .u64 0, .int .u64 0, .int .u64 0, .int .u64 0, .int .u64 0, .int .u64 0, .int .u64 0, .int .u64 0, .slice none 0 0] 32)) := ((Below.refl _ _).alloc (Nat.le_refl _) _).alloc (by simp) _
  have h1 : ((w.alloc (.cells #[.int .i64 H.mem, .int .i64 H.stk, .int .i64 H.inp, .slice H.Ad H.ld H.cd, .slice H.Af H.lf H.cf, .slice H.Ac H.lc H.cc] 26)).alloc (.cells #[.slice none 0 0, .int .i64 0, .int .u64 0, .int .u64 0, .int .u64 0, .int .u64 0, .int .u64 0, .int .u64 0, .int .u64 0, .int .u64 0, .slice none 0 0] 32)).heap[w.heap.size]? = some (.cells #[.int .i64 H.mem, .int .i64 H.stk, .int .i64 H.inp, .slice H.Ad H.ld H.cd, .slice H.Af H.lf H.cf, .slice H.Ac H.lc H.cc] 26 (0, 0)) := ((Below.box _ _).block _ (by simp)).trans (heap_newM rfl)
  have h2 : ((w.alloc (.cells #[.int .i64 H.mem, .int .i64 H.stk, .int .i64 H.inp, .slice H.Ad H.ld H.cd, .slice H.Af H.lf H.cf, .slice H.Ac H.lc H.cc] 26)).alloc (.cells #[.slice none 0 0, .int .i64 0, .int .u64 0, .int .u64 0, .int .u64 0, .int .u64 0, .int .u64 0, .int .u64 0, .int .u64 0, .int .u64 0, .slice none 0 0] 32)).heap[w.heap.size + 1]? = some (.cells #[.slice none 0 0, .int .i64 0, .int .u64 0, .int .u64 0, .int .u64 0, .int .u64 0, .int .u64 0, .int .u64 0, .int .u64 0, .int .u64 0, .slice none 0 0] 32 (0, 0)) := heap_newM (by simp)
  have hz : ((w.alloc (.cells #[.int .i64 H.mem, .int .i64 H.stk, .int .i64 H.inp, .slice H.Ad H.ld H.cd, .slice H.Af H.lf H.cf, .slice H.Ac H.lc H.cc] 26)).alloc (.cells #[.slice none 0 0, .int .i64 0, .int .u64 0, .int .u64 0, .int .u64 0, .int .u64 0, .int .u64 0, .int .u64 0, .int .u64 0, .int .u64 0, .slice none 0 0] 32)).heap.size = w.heap.size + 2 := by simp
  generalize (w.alloc (.cells #[.int .i64 H.mem, .int .i64 H.stk, .int .i64 H.inp, .slice H.Ad H.ld H.cd, .slice H.Af H.lf H.cf, .slice H.Ac H.lc H.cc] 26)).alloc (.cells #[.slice none 0 0, .int .i64 0, .int .u64 0, .int .u64 0, .int .u64 0, .int .u64 0, .int .u64 0, .int .u64 0, .int .u64 0, .int .u64 0, .slice none 0 0] 32) = w1 at *
  refine (HEN.out _ hB).mono ?_
  rintro e v ⟨A, n, cap, rfl, hby, hbv⟩
  have hB2 := hB.trans (hbv.mono hB.size)
  have hv1 := (hbv.block _ (by omega)).trans h1
  have hv2 := (hbv.block _ (by omega)).trans h2
  have hvz : w.heap.size + 2 ≤ v.heap.size := by have := hbv.size; omega
  have HB2 := Lib.hid hB2
  have HV1 := Lib.hid hv1
  have HV2 := Lib.hid hv2
  have HVZ := Lib.hid hvz
  clear hB h1 h2 hz hby hbv hB2 hv1 hv2 hvz
  have h1c : (#[.slice none 0 0, .int .i64 0, .int .u64 0, .int .u64 0, .int .u64 0, .int .u64 0, .int .u64 0, .int .u64 0, .int .u64 0, .int .u64 0, .slice none 0 0] : Array Value).all (·.oneCell') = true := by simp [Value.oneCell']
  have H1C := Lib.hid h1c
  clear h1c
  go_wp2_with (first | (with_reducible refine store_tr (.tmp 6) (.tmp 20) _ _ #[.slice none 0 0, .int .i64 0, .int .u64 0, .int .u64 0, .int .u64 0, .int .u64 0, .int .u64 0, .int .u64 0, .int .u64 0, .int .u64 0, .slice none 0 0] HV2.out rfl rfl rfl rfl rfl rfl H1C.out ?_) | fail)
  exact ret_tr (w.heap.size + 1) #[.slice none 0 0, .int .i64 0, .int .u64 0, .int .u64 0, .int .u64 0, .int .u64 0, .int .u64 0, .int .u64 0, .int .u64 0, .int .u64 0, .slice none 0 0] (.int .i64 c) (setRow_heap _ _ _ _ _ _ HV2.out) rfl rfl rfl rfl rfl ⟨.slice none 0 0, .slice none 0 0, rfl, World.ownsRow_nil _ _ _ _, World.ownsRow_nil _ _ _ _, below_setRowM HB2.out (by omega) _⟩

set_option maxRecDepth 20000 in
set_option maxHeartbeats 6400000 in
theorem run_long (H : Hd) (steps : Int) (w : World) (ho : Ops w) (HA : HdAt w H) (hc : Im.chk H.p = 0) (hl : H.p.inp < H.xs.length) :
    Calls Tryd.prog 12 #[.agg #[.int .i64 H.mem, .int .i64 H.stk, .int .i64 H.inp, .slice H.Ad H.ld H.cd, .slice H.Af H.lf H.cf, .slice H.Ac H.lc H.cc], .slice H.Ai H.li H.ci, .int .i64 steps] w (RunP (Mc.answer H.p H.xs steps) w) := by
  have ea : Mc.answer H.p H.xs steps = ([], 0, Mc.zero8, [], 16) := by unfold Mc.answer; rw [if_neg (by simpa using hc), if_pos hl]
  rw [ea]
  have hp := ho.pos
  have hen : ∀ W, Below w.heap.size w W → Calls Tryd.prog 28 #[.agg #[.int .i64 H.mem, .int .i64 H.stk, .int .i64 H.inp, .slice H.Ad H.ld H.cd, .slice H.Af H.lf H.cf, .slice H.Ac H.lc H.cc]] W fun e w' => ∃ A n cap, e = .returned (.tuple #[.slice A n cap, .int .i64 0]) ∧ BySl w' A n cap (Im.out H.p) ∧ Below W.heap.size W w' := fun W hW => by
    have := encode_any _ _ _ _ _ _ _ _ _ _ _ _ H.p W (ho.below hW hp) (HA.img.below hW) HA.e0 HA.e1 HA.e2
    rwa [hc] at this
  have hlen := HA.inp.hlen
  have hin : H.inp < (H.li : Int) := by rw [← HA.e2, ← hlen]; exact hl
  have hlm := Nat.le_trans HA.inp.hle HA.inp.hcap
  unfold maxLen at hlm
  have HEN := Lib.hid hen
  clear hen ho HA hc ea hl hlen
  go_enter Tryd.func12, Tryd.ntmps12
  go_wp2_with fail
  have hB : Below w.heap.size w ((w.alloc (.cells #[.int .i64 H.mem, .int .i64 H.stk, .int .i64 H.inp, .slice H.Ad H.ld H.cd, .slice H.Af H.lf H.cf, .slice H.Ac H.lc H.cc] 26)).alloc (.cells #[.slice none 0 0, .int .i64 0, .int .u64 0, .int .u64 0, .int .u64 0, .int .u64 0, .int .u64 0, .int .u64 0, .int .u64 0, .int .u64 0, .slice none 0 0] 32)) := ((Below.refl _ _).alloc (Nat.le_refl _) _).alloc (by simp) _
  have h1 : ((w.alloc (.cells #[.int .i64 H.mem, .int .i64 H.stk, .int .i64 H.inp, .slice H.Ad H.ld H.cd, .slice H.Af H.lf H.cf, .slice H.Ac H.lc H.cc] 26)).alloc (.cells #[.slice none 0 0, .int .i64 0, .int .u64 0, .int .u64 0, .int .u64 0, .int .u64 0, .int .u64 0, .int .u64 0, .int .u64 0, .int .u64 0, .slice none 0 0] 32)).heap[w.heap.size]? = some (.cells #[.int .i64 H.mem, .int .i64 H.stk, .int .i64 H.inp, .slice H.Ad H.ld H.cd, .slice H.Af H.lf H.cf, .slice H.Ac H.lc H.cc] 26 (0, 0)) := ((Below.box _ _).block _ (by simp)).trans (heap_newM rfl)
  have h2 : ((w.alloc (.cells #[.int .i64 H.mem, .int .i64 H.stk, .int .i64 H.inp, .slice H.Ad H.ld H.cd, .slice H.Af H.lf H.cf, .slice H.Ac H.lc H.cc] 26)).alloc (.cells #[.slice none 0 0, .int .i64 0, .int .u64 0, .int .u64 0, .int .u64 0, .int .u64 0, .int .u64 0, .int .u64 0, .int .u64 0, .int .u64 0, .slice none 0 0] 32)).heap[w.heap.size + 1]? = some (.cells #[.slice none 0 0, .int .i64 0, .int .u64 0, .int .u64 0, .int .u64 0, .int .u64 0, .int .u64 0, .int .u64 0, .int .u64 0, .int .u64 0, .slice none 0 0] 32 (0, 0)) := heap_newM (by simp)
  have hz : ((w.alloc (.cells #[.int .i64 H.mem, .int .i64 H.stk, .int .i64 H.inp, .slice H.Ad H.ld H.cd, .slice H.Af H.lf H.cf, .slice H.Ac H.lc H.cc] 26)).alloc (.cells #[.slice none 0 0, .int .i64 0, .int .u64 0, .int .u64 0, .int .u64 0, .int .u64 0, .int .u64 0, .int .u64 0, .int .u64 0, .int .u64 0, .slice none 0 0] 32)).heap.size = w.heap.size + 2 := by simp
  generalize (w.alloc (.cells #[.int .i64 H.mem, .int .i64 H.stk, .int .i64 H.inp, .slice H.Ad H.ld H.cd, .slice H.Af H.lf H.cf, .slice H.Ac H.lc H.cc] 26)).alloc (.cells #[.slice none 0 0, .int .i64 0, .int .u64 0, .int .u64 0, .int .u64 0, .int .u64 0, .int .u64 0, .int .u64 0, .int .u64 0, .int .u64 0, .slice none 0 0] 32) = w1 at *
  refine (HEN.out _ hB).mono ?_
  rintro e v ⟨A, n, cap, rfl, hby, hbv⟩
  have hB2 := hB.trans (hbv.mono hB.size)
  have hv1 := (hbv.block _ (by omega)).trans h1
  have hv2 := (hbv.block _ (by omega)).trans h2
  have hvz : w.heap.size + 2 ≤ v.heap.size := by have := hbv.size; omega
  have HB2 := Lib.hid hB2
  have HV1 := Lib.hid hv1
  have HV2 := Lib.hid hv2
  have HVZ := Lib.hid hvz
  clear hB h1 h2 hz hby hbv hB2 hv1 hv2 hvz
  have h1c : (#[.slice none 0 0, .int .i64 0, .int .u64 0, .int .u64 0, .int .u64 0, .int .u64 0, .int .u64 0, .int .u64 0, .int .u64 0, .int .u64 0, .slice none 0 0] : Array Value).all (·.oneCell') = true := by simp [Value.oneCell']
  have H1C := Lib.hid h1c
  have q2 := row_cell HV1.out 2
  simp at q2
  clear h1c
  go_wp2_with (first | (with_reducible refine store_tr (.tmp 6) (.tmp 27) _ _ #[.slice none 0 0, .int .i64 0, .int .u64 0, .int .u64 0, .int .u64 0, .int .u64 0, .int .u64 0, .int .u64 0, .int .u64 0, .int .u64 0, .slice none 0 0] HV2.out rfl rfl rfl rfl rfl rfl H1C.out ?_) | fail)
  exact ret_tr (w.heap.size + 1) #[.slice none 0 0, .int .i64 0, .int .u64 0, .int .u64 0, .int .u64 0, .int .u64 0, .int .u64 0, .int .u64 0, .int .u64 0, .int .u64 0, .slice none 0 0] (.int .i64 16) (setRow_heap _ _ _ _ _ _ HV2.out) rfl rfl rfl rfl rfl ⟨.slice none 0 0, .slice none 0 0, rfl, World.ownsRow_nil _ _ _ _, World.ownsRow_nil _ _ _ _, below_setRowM HB2.out (by omega) _⟩
end Go.Proofs.YtfhnigfghfmolaaDoor
