/-
  The contract of step.
-/
import Derived.Test.YthkhadbeomkihaaDoorMc10
import Derived.Laws.EntriesVeiled
namespace Go.Proofs.YthkhadbeomkihaaDoor
set_option maxRecDepth 100000
open Go.RowKit

namespace Mc
def still (s : St) (r : St × Int × Int) : Prop := r.2.2 = 0 ∨ r.1 = s
theorem still_ite {s : St} {c : Prop} [Decidable c] {x y : St × Int × Int} (h : still s x) (k : still s y) : still s (if c then x else y) := by
  split
  · exact h
  · exact k
theorem act_or (p : Im.Pic) (xs : List Int) (i : Im.I5) (s : St) (nx : Int) : still s (act p xs i s nx) := by
  unfold act
  repeat' (first
    | exact .inr rfl
    | exact .inl rfl
    | refine still_ite ?_ ?_)
/-- What a step of a right image wants of a state. -/
structure Ok1 (p : Im.Pic) (s : St) : Prop where
  p0 : 0 ≤ s.pl
  p1 : s.pl < p.cs.length
  rl : s.rg.length = 8
  rr : ∀ x ∈ s.rg, 0 ≤ x ∧ x < 18446744073709551616
  mb : Cd.isB s.mm
  ol : s.op.length ≤ 1000
end Mc

theorem callF : ∀ (n : Nat), n < 26 → ∀ (args : Array Value) (W : World), (callFunc (fnOf n) args).run Tryd.prog W = .ok (.enter (fnOf n) args) W
  | 0, _, _, _ => by kernel_rfl
  | 1, _, _, _ => by kernel_rfl
  | 2, _, _, _ => by kernel_rfl
  | 3, _, _, _ => by kernel_rfl
  | 4, _, _, _ => by kernel_rfl
  | 5, _, _, _ => by kernel_rfl
  | 6, _, _, _ => by kernel_rfl
  | 7, _, _, _ => by kernel_rfl
  | 8, _, _, _ => by kernel_rfl
  | 9, _, _, _ => by kernel_rfl
  | 10, _, _, _ => by kernel_rfl
  | 11, _, _, _ => by kernel_rfl
  | 12, _, _, _ => by kernel_rfl
  | 13, _, _, _ => by kernel_rfl
  | 14, _, _, _ => by kernel_rfl
  | 15, _, _, _ => by kernel_rfl
  | 16, _, _, _ => by kernel_rfl
  | 17, _, _, _ => by kernel_rfl
  | 18, _, _, _ => by kernel_rfl
  | 19, _, _, _ => by kernel_rfl
  | 20, _, _, _ => by kernel_rfl
  | 21, _, _, _ => by kernel_rfl
  | 22, _, _, _ => by kernel_rfl
  | 23, _, _, _ => by kernel_rfl
  | 24, _, _, _ => by kernel_rfl
  | 25, _, _, _ => by kernel_rfl
  | n + 26, h, _, _ => absurd h (by omega)

/-- Of an instruction of a right image: where it leads. -/
theorem right_leads {p : Im.Pic} (h : Mc.R p) {k : Nat} (hk : k < p.cs.length) : ((p.cs.getD k Im.z5).op = 21 ∨ (p.cs.getD k Im.z5).op = 22 → (p.cs.getD k Im.z5).m < p.cs.length) ∧ ((p.cs.getD k Im.z5).op = 23 → (p.cs.getD k Im.z5).m < p.fs.length) := by
  have hC := h.cnt
  have hP := hC.2.2.2.2.2.2
  obtain ⟨h1, h2, h3⟩ := Im.own_spec hP hC.2.2.2.2.1.1 (p := (k : Int)) (by omega) (by omega)
  have hok := h.ok k hk
  unfold Im.okB at hok
  simp only [Bool.and_eq_true] at hok
  have hl := hok.1
  unfold Im.leads at hl
  have ht := hP.till_le h1
  refine ⟨fun e => ?_, fun e => ?_⟩
  · rw [if_pos e] at hl
    simp only [Bool.and_eq_true, decide_eq_true_eq] at hl
    omega
  · rw [if_neg (by omega), if_pos e] at hl
    simpa using hl

/-- What a step leaves. -/
def SP (H : Hd) (w0 : World) (g : Nat) (M O : Value) (r : Mc.St × Int) (w : World) (e : Ending) (w' : World) : Prop :=
  ∃ O' nx, e = .returned (.int .i64 r.2) ∧ Rn H w0 g M O' r.1 nx w' ∧ Fr g M.ownBlock O.ownBlock w w' ∧ (O'.ownBlock = O.ownBlock ∨ ∃ k, O'.ownBlock = some k ∧ w.heap.size ≤ k)

set_option maxRecDepth 20000 in
set_option maxHeartbeats 3200000 in
theorem step_any (H : Hd) (w0 : World) (g : Nat) (M O : Value) (s : Mc.St) (nx : Int) (w : World) (HA : HdAt w0 H) (h : Rn H w0 g M O s nx w) (hR : Mc.R H.p) (hok : Mc.Ok1 H.p s) :
    Calls Tryd.prog 30 #[.pointer (some ⟨g, 0, none⟩)] w (SP H w0 g M O (Mc.step H.p H.xs s) w) := by
  obtain ⟨k, hk⟩ := Int.eq_ofNat_of_zero_le hok.p0
  have hkl : k < H.p.cs.length := by have := hok.p1; omega
  obtain ⟨cs, hb, hc⟩ := h.row
  have hIA := HA.img.c.below h.bel
  have hlc := hIA.hlen
  have hlm := Nat.le_trans hIA.hle hIA.hcap
  obtain ⟨bc, oc, hAc, hbc, hcc⟩ := hIA.mem (by omega)
  have hins := hcc k (by omega)
  have hrng := hIA.rng k
  have hbad := hR.bad k hkl
  have hld := right_leads hR hkl
  have hi : Mc.ins H.p s = H.p.cs.getD k Im.z5 := by unfold Mc.ins; rw [hk]; simp
  generalize hI : H.p.cs.getD k Im.z5 = i at *
  have hlf := HA.img.f.hlen
  have hCn := hR.cnt
  have hstep : Mc.step H.p H.xs s = (if (Mc.act H.p H.xs i s (k + 1)).2.2 = 0 then ({ (Mc.act H.p H.xs i s (k + 1)).1 with pl := (Mc.act H.p H.xs i s (k + 1)).2.1 }, 0) else (s, (Mc.act H.p H.xs i s (k + 1)).2.2)) := by unfold Mc.step; rw [hi, hk]
  have HST := Lib.hid hstep
  clear hstep
  generalize Mc.step H.p H.xs s = R at *
  have hact : ∀ W, Rn H w0 g M O s ((k : Int) + 1) W → Calls Tryd.prog (fnOf i.op.toNat) #[.pointer (some ⟨g, 0, none⟩), .agg #[.int .i64 i.op, .int .i64 i.a, .int .i64 i.b, .int .i64 i.c, .int .u64 i.m]] W (AP H w0 g M O (Mc.act H.p H.xs i s (k + 1)) W) := fun W hW =>
    act_any HA hW hok.rl hok.rr hok.mb hok.ol i hbad hrng.1 (fun e => by have := hld.1 e; have := hCn.2.2.2.2.2.1.2; omega) (fun e => by have := hld.2 e; omega)
  have hend := Mc.act_or H.p H.xs i s (k + 1)
  generalize Mc.act H.p H.xs i s (k + 1) = r at *
  obtain ⟨s', nx', en⟩ := r
  obtain ⟨sf, ef⟩ := R
  obtain ⟨o0, o1, _⟩ := Cd.bad_none (show Cd.bad i.op i.a i.b i.c i.m = -1 from hbad)
  obtain ⟨n, hn⟩ := Int.eq_ofNat_of_zero_le o0
  have hn26 : n < 26 := by omega
  have hac := hc.ac n hn26
  rw [hn] at hact
  have hact' := hact
  rw [show ((n : Int)).toNat = n by simp] at hact'
  have haV : actV n = .func (.func (fnOf n)) #[] #[] := rfl
  rw [haV] at hac
  have hcf := callF n hn26
  generalize fnOf n = F at *
  have HCF := Lib.hid hcf
  clear hcf
  obtain ⟨op, a, b, c, m⟩ := i
  simp only at hn hact'
  obtain ⟨i0, i1, i2, i3, i4⟩ := hins
  simp only at i0 i1 i2 i3 i4
  rw [hn] at i0
  have c5 := hc.c5
  rw [hAc] at c5
  have x5 := (hb.c 5).trans c5
  have x7 := (hb.c 7).trans hc.c7
  rw [hk] at x7
  have y5 := hb.cA c5
  have y7 : ∀ o, (w.alloc o).cell? ⟨g, 7, none⟩ = some (.int .i64 k) := fun o => by rw [hb.cA hc.c7 o, hk]
  have j0 : ∀ o, (w.alloc o).cell? ⟨bc, oc + k * 5, none⟩ = _ := fun o => ((Below.box w o).cell (p := ⟨bc, oc + k * 5, none⟩) hbc).trans i0
  have j1 : ∀ o, (w.alloc o).cell? ⟨bc, oc + k * 5 + 1, none⟩ = _ := fun o => ((Below.box w o).cell (p := ⟨bc, oc + k * 5 + 1, none⟩) hbc).trans i1
  have j2 : ∀ o, (w.alloc o).cell? ⟨bc, oc + k * 5 + 2, none⟩ = _ := fun o => ((Below.box w o).cell (p := ⟨bc, oc + k * 5 + 2, none⟩) hbc).trans i2
  have j3 : ∀ o, (w.alloc o).cell? ⟨bc, oc + k * 5 + 3, none⟩ = _ := fun o => ((Below.box w o).cell (p := ⟨bc, oc + k * 5 + 3, none⟩) hbc).trans i3
  have j4 : ∀ o, (w.alloc o).cell? ⟨bc, oc + k * 5 + 4, none⟩ = _ := fun o => ((Below.box w o).cell (p := ⟨bc, oc + k * 5 + 4, none⟩) hbc).trans i4
  have hkc : (k : Int) < H.lc := by omega
  have hne : bc ≠ w.heap.size := by omega
  have hg : g ≠ w.heap.size := by have := hb.lt; omega
  unfold maxLen at hlm
  have HB := Lib.hid hb
  have HC := Lib.hid hc
  have HRN := Lib.hid h
  have HACT := Lib.hid hact'
  have HEND := Lib.hid hend
  have HAC := Lib.hid hac
  have HOK := Lib.hid hok
  clear hb hc h hact hact' hend hac hok hrng hbad hld hi hI hIA hcc hCn HA hR c5 haV hlf hlc hbc hkl o0 o1 hk
  subst hn
  go_enter Tryd.func30, Tryd.ntmps30
  go_wp2_with fail
  go_region
  have hB1 : Below w.heap.size w (w.alloc (.cells #[.int .i64 n, .int .i64 a, .int .i64 b, .int .i64 c, .int .u64 m] 59)).drew := (Below.box _ _).drew
  have hR1 : RnB (w.alloc (.cells #[.int .i64 n, .int .i64 a, .int .i64 b, .int .i64 c, .int .u64 m] 59)).drew g cs := (HB.out.box _).drew
  have hbx : (w.alloc (.cells #[.int .i64 n, .int .i64 a, .int .i64 b, .int .i64 c, .int .u64 m] 59)).drew.heap[w.heap.size]? = some (.cells #[.int .i64 n, .int .i64 a, .int .i64 b, .int .i64 c, .int .u64 m] 59 (0, 0)) := heap_newM rfl
  have hz1 : w.heap.size < (w.alloc (.cells #[.int .i64 n, .int .i64 a, .int .i64 b, .int .i64 c, .int .u64 m] 59)).drew.heap.size := by simp
  have hx7 := y7 (.cells #[.int .i64 n, .int .i64 a, .int .i64 b, .int .i64 c, .int .u64 m] 59)
  have hx7 : (w.alloc (.cells #[.int .i64 n, .int .i64 a, .int .i64 b, .int .i64 c, .int .u64 m] 59)).drew.cell? ⟨g, 7, none⟩ = some (.int .i64 k) := hx7
  clear i0 i1 i2 i3 i4 x5 x7 y5 y7 j0 j1 j2 j3 j4
  generalize (w.alloc (.cells #[.int .i64 n, .int .i64 a, .int .i64 b, .int .i64 c, .int .u64 m] 59)).drew = w1 at *
  obtain ⟨v18, hv18⟩ := RnB.ex HC.out.sz (i := 18) (by decide)
  have x18 := (hR1.c 18).trans hv18
  have f18 := Joins.unfrozen_of_block hR1 18
  have hw1 : IntKind.i64.wrap ((k : Int) + 1) = k + 1 := by rw [IntKind.wrap_i64]; omega
  have hR2 := hR1.set (i := 18) (.int .i64 ((k : Int) + 1))
  have hRn2 : Rn H w0 g M O s ((k : Int) + 1) (w1.setCell ⟨g, 18, none⟩ (.int .i64 ((k : Int) + 1))) := (HRN.out.below hB1).cells hR2 (HC.out.nx _) (Fr.set _ _ _) rfl rfl
  have hF2 : Fr g none none w (w1.setCell ⟨g, 18, none⟩ (.int .i64 ((k : Int) + 1))) := (Fr.of_below hB1).trans (Fr.set _ _ _)
  have hb2 : (w1.setCell ⟨g, 18, none⟩ (.int .i64 ((k : Int) + 1))).heap[w.heap.size]? = some (.cells #[.int .i64 n, .int .i64 a, .int .i64 b, .int .i64 c, .int .u64 m] 59 (0, 0)) := (Below.heap_setCell _ _ _ _ (by simp; omega)).trans hbx
  have HR2 := Lib.hid hR2
  have HRN2 := Lib.hid hRn2
  have HF2 := Lib.hid hF2
  have HB2 := Lib.hid hb2
  clear hB1 hR1 hbx hz1 hv18 hR2 hRn2 hF2 hb2
  go_wp2_with fail
  generalize w1.setCell ⟨g, 18, none⟩ (.int .i64 ((k : Int) + 1)) = w2 at *
  clear x18 f18 hw1 hx7
  have z0 := row_cell HB2.out 0
  have z1 := row_cell HB2.out 1
  have z2 := row_cell HB2.out 2
  have z3 := row_cell HB2.out 3
  have z4 := row_cell HB2.out 4
  simp at z0 z1 z2 z3 z4
  have zA := (HR2.out.c (19 + n)).trans ((Array.getElem?_setIfInBounds_ne (by omega)).trans HAC.out)
  have hnn : (n : Int) < 26 := by omega
  refine quiet_tail 9 (by kernel_rfl) (by kernel_rfl) ?_
  simp only [List.take_succ_cons, List.take_zero, List.drop_succ_cons, List.drop_zero]
  repeat (quiet_step (fail))
  refine wpQuiet_nil ?_
  intro _ hw'
  obtain ⟨nq, hw''⟩ := hw'
  subst hw''
  clear z0 z1 z2 z3 z4 zA
  have hC3 := HACT.out _ (HRN2.out.below (below_drewN (Below.refl _ _) nq))
  have HC3 := Lib.hid hC3
  have hcf := HCF.out
  clear hC3
  go_wp2_with fail
  clear hcf
  refine HC3.out.mono ?_
  rintro e v ⟨O', rfl, hrn, hfr, hor⟩
  have hFv : Fr g M.ownBlock O.ownBlock w v := (HF2.out.wide.drewN nq).trans hfr
  have hO' : O'.ownBlock = O.ownBlock ∨ ∃ k, O'.ownBlock = some k ∧ w.heap.size ≤ k := hor.imp_right fun ⟨k, h1, h2⟩ => ⟨k, h1, Nat.le_trans HF2.out.size h2⟩
  have HV := Lib.hid hFv
  have HO' := Lib.hid hO'
  have HN := Lib.hid hrn
  clear hrn hfr hor hFv hO'
  by_cases hen : en = 0
  · have hst := HST.out
    rw [if_pos hen] at hst
    simp only [Prod.mk.injEq] at hst
    obtain ⟨rfl, rfl⟩ := hst
    subst hen
    obtain ⟨cv, hbv, hcv⟩ := HN.out.row
    have v18 := (hbv.c 18).trans hcv.c18
    have v7 := (hbv.c 7).trans hcv.c7
    have f7 := Joins.unfrozen_of_block hbv 7
    have HBV := Lib.hid hbv
    have HCV := Lib.hid hcv
    clear hbv hcv
    go_wp2
    go_ret
    exact ⟨O', nx', rfl, HN.out.cells (HBV.out.set _) (HCV.out.pl _) (Fr.set _ _ _) rfl rfl, HV.out.trans (Fr.set _ _ _), HO'.out⟩
  · have hst := HST.out
    rw [if_neg hen] at hst
    simp only [Prod.mk.injEq] at hst
    obtain ⟨rfl, rfl⟩ := hst
    have hs' : s' = sf := HEND.out.resolve_left hen
    have HS' := Lib.hid hs'
    have hen' : (ef == 0) = false := by simpa using hen
    clear hen hs'
    go_wp2
    go_ret
    exact ⟨O', nx', rfl, by rw [← HS'.out]; exact HN.out, HV.out, HO'.out⟩
end Go.Proofs.YthkhadbeomkihaaDoor
