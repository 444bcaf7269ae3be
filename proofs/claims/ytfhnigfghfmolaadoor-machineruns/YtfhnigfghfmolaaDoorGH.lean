/-
  Contracts of bytes.Clone, slices.Clone and canBeDone.
  The contract of canBeDone, of a place of a right image.
  The contract of Step.
  MachineReach: runs of more steps begin as runs of fewer; the law's walk.
  A run as its steps, in plain words; Step at any state's value.
-/
import Derived.Test.YtfhnigfghfmolaaDoorGG
import Derived.Lib.SliceRun
set_option linter.unusedSimpArgs false
set_option linter.unusedVariables false
namespace Go.Proofs.YtfhnigfghfmolaaDoor
set_option maxRecDepth 100000
open Go.RowKit

theorem InSl.sl {w : World} {A : Option Addr} {n cap : Nat} {xs : List Int} (h : InSl w A n cap xs) : Sl w A n (xs.map (Value.int .i64)) :=
  ⟨by rw [List.length_map]; exact h.hlen, fun h0 => by
    obtain ⟨b, o, e, hb, hx⟩ := h.mem h0
    exact ⟨b, o, e, hb, fun j u hu => by
      have hj : j < xs.length := by
        rcases Nat.lt_or_ge j xs.length with h1 | h1
        · exact h1
        · rw [List.getElem?_eq_none (by simpa using h1)] at hu; cases hu
      rw [getD_map' hj] at hu
      injection hu with hu
      rw [add_at, hx j (by rw [← h.hlen]; exact hj), hu]⟩⟩

set_option maxHeartbeats 1600000 in
theorem bclone_any (A : Option Addr) (n cap : Nat) (xs : List Int) (w : World) (h : BySl w A n cap xs) (hn : n ≤ 1000) :
    Calls Tryd.prog 34 #[.slice A n cap] w fun e w' => ∃ A' cap', e = .returned (.slice A' n cap') ∧ w'.ownsRow w.heap.size 5 1 (.slice A' n cap') n (xs.map (Value.int .u8)) ∧ Below w.heap.size w w' := by
  rcases A with _ | ⟨b, o, sp⟩
  · have h0 := h.hnone rfl
    subst h0
    obtain rfl : xs = [] := List.eq_nil_of_length_eq_zero h.hlen
    have hq := fun W => Lib.run_eql_slice_nil (P := Tryd.prog) W 22 5 none 0 cap 0 0 Tryd.underlying22
    clear h
    go_enter Tryd.func34, Tryd.ntmps34
    go_wp2
    go_ret
    exact ⟨none, 0, rfl, World.ownsRow_nil _ _ _ _, Below.refl _ _⟩
  · obtain ⟨i0, hi0, hz0, hz1, hz2⟩ := info_parts u8_info
    have hq := fun W => Lib.run_eql_slice_nil (P := Tryd.prog) W 22 5 (some ⟨b, o, sp⟩) n cap 0 0 Tryd.underlying22
    have hs := (h.below (Below.box w (.cells #[] 5))).sl
    have ho : (w.alloc (.cells #[] 5)).ownsRow w.heap.size 5 1 (.slice (some ⟨w.heap.size, 0, none⟩) 0 0) 0 [] := World.ownsRow_made w #[] 0 (Nat.le_refl _) (by simp [maxLen]) rfl
    have HS := Lib.hid hs
    have HO := Lib.hid ho
    clear h hs ho
    go_enter Tryd.func34, Tryd.ntmps34
    go_wp2_with (
      at_builtin
      refine wpList_ap (w := w.alloc (.cells #[] 5)) rfl (.tmp 5) (.tmp 6) _ rfl w.heap.size 5 i0 _ 1 Tryd.underlying22 hi0 hz0 hz1 hz2 rfl (.slice (some ⟨w.heap.size, 0, none⟩) 0 0) 0 _ rfl HO.out (some ⟨b, o, sp⟩) n cap (xs.map (Value.int .u8)) rfl HS.out (fun e => by cases e) (one_cell _) (by simp only [maxLen]; omega) (by omega) (by simp) n (xs.map (Value.int .u8)) (by omega) (by simp) ?_
      intro A3 cap3 w3 hc1 hc2 hown3 hsl3 hb3)
    go_ret
    exact ⟨A3, cap3, rfl, hown3, (Below.box _ _).trans (hb3.mono (by simp))⟩

set_option maxHeartbeats 1600000 in
theorem iclone_any (A : Option Addr) (n cap : Nat) (xs : List Int) (w : World) (h : InSl w A n cap xs) (hn : n ≤ 1000) :
    Calls Tryd.prog 35 #[.slice A n cap] w fun e w' => ∃ A' cap', e = .returned (.slice A' n cap') ∧ w'.ownsRow w.heap.size 3 1 (.slice A' n cap') n (xs.map (Value.int .i64)) ∧ Below w.heap.size w w' := by
  rcases A with _ | ⟨b, o, sp⟩
  · have h0 := h.hnone rfl
    subst h0
    obtain rfl : xs = [] := List.eq_nil_of_length_eq_zero h.hlen
    have hq := fun W => Lib.run_eql_slice_nil (P := Tryd.prog) W 23 3 none 0 cap 0 0 Tryd.underlying23
    clear h
    go_enter Tryd.func35, Tryd.ntmps35
    go_wp2
    go_ret
    exact ⟨none, 0, rfl, World.ownsRow_nil _ _ _ _, Below.refl _ _⟩
  · obtain ⟨i0, hi0, hz0, hz1, hz2⟩ := info_parts i64_infoM
    have hq := fun W => Lib.run_eql_slice_nil (P := Tryd.prog) W 23 3 (some ⟨b, o, sp⟩) n cap 0 0 Tryd.underlying23
    have hs := (h.below (Below.box w (.cells #[] 3))).sl
    have ho : (w.alloc (.cells #[] 3)).ownsRow w.heap.size 3 1 (.slice (some ⟨w.heap.size, 0, none⟩) 0 0) 0 [] := World.ownsRow_made w #[] 0 (Nat.le_refl _) (by simp [maxLen]) rfl
    have HS := Lib.hid hs
    have HO := Lib.hid ho
    clear h hs ho
    go_enter Tryd.func35, Tryd.ntmps35
    go_wp2_with (
      at_builtin
      refine wpList_ap (w := w.alloc (.cells #[] 3)) rfl (.tmp 5) (.tmp 6) _ rfl w.heap.size 3 i0 _ 8 Tryd.underlying23 hi0 hz0 hz1 hz2 rfl (.slice (some ⟨w.heap.size, 0, none⟩) 0 0) 0 _ rfl HO.out (some ⟨b, o, sp⟩) n cap (xs.map (Value.int .i64)) rfl HS.out (fun e => by cases e) (one_cell64M _) (by simp only [maxLen]; omega) (by omega) (by simp) n (xs.map (Value.int .i64)) (by omega) (by simp) ?_
      intro A3 cap3 w3 hc1 hc2 hown3 hsl3 hb3)
    go_ret
    exact ⟨A3, cap3, rfl, hown3, (Below.box _ _).trans (hb3.mono (by simp))⟩
end Go.Proofs.YtfhnigfghfmolaaDoor
namespace Go.Proofs.YtfhnigfghfmolaaDoor
set_option maxRecDepth 100000
open Go.RowKit

set_option maxRecDepth 20000 in
set_option maxHeartbeats 3200000 in
theorem can_any (mem stk inp : Int) (Ad : Option Addr) (ld cd : Nat) (Af : Option Addr) (lf cf : Nat) (Ac : Option Addr) (lc cc : Nat) (P : Im.Pic) (k : Nat) (w : World) (ho : Ops w) (hi : ImAt w Ad ld cd Af lf cf Ac lc cc P) (hR : Mc.R P) (hk : k < P.cs.length) :
    Calls Tryd.prog 36 #[.agg #[.int .i64 mem, .int .i64 stk, .int .i64 inp, .slice Ad ld cd, .slice Af lf cf, .slice Ac lc cc], .int .i64 k] w fun e w' => e = .returned (.bool true) ∧ Below w.heap.size w w' := by
  have hp := ho.pos
  have hlc := hi.c.hlen
  have hlm := Nat.le_trans hi.c.hle hi.c.hcap
  have hlf := hi.f.hlen
  have hlfm := Nat.le_trans hi.f.hle hi.f.hcap
  obtain ⟨bc, oc, rfl, hbc, hcc⟩ := hi.c.mem (by omega)
  have hins := hcc k (by omega)
  have hrng := hi.c.rng k
  have hbad := hR.bad k hk
  have hld := (right_leads hR hk).2
  generalize P.cs.getD k Im.z5 = i at *
  obtain ⟨op, a, b, c, m⟩ := i
  have hbad : Cd.bad op a b c m = -1 := hbad
  simp only at hld hrng
  obtain ⟨i0, i1, i2, i3, i4⟩ := hins
  simp only at i0 i1 i2 i3 i4
  have j0 : ∀ o, (w.alloc o).cell? ⟨bc, oc + k * 5, none⟩ = _ := fun o => ((Below.box w o).cell (p := ⟨bc, oc + k * 5, none⟩) hbc).trans i0
  have j1 : ∀ o, (w.alloc o).cell? ⟨bc, oc + k * 5 + 1, none⟩ = _ := fun o => ((Below.box w o).cell (p := ⟨bc, oc + k * 5 + 1, none⟩) hbc).trans i1
  have j2 : ∀ o, (w.alloc o).cell? ⟨bc, oc + k * 5 + 2, none⟩ = _ := fun o => ((Below.box w o).cell (p := ⟨bc, oc + k * 5 + 2, none⟩) hbc).trans i2
  have j3 : ∀ o, (w.alloc o).cell? ⟨bc, oc + k * 5 + 3, none⟩ = _ := fun o => ((Below.box w o).cell (p := ⟨bc, oc + k * 5 + 3, none⟩) hbc).trans i3
  have j4 : ∀ o, (w.alloc o).cell? ⟨bc, oc + k * 5 + 4, none⟩ = _ := fun o => ((Below.box w o).cell (p := ⟨bc, oc + k * 5 + 4, none⟩) hbc).trans i4
  have hkc : (k : Int) < lc := by omega
  have hkc' : ¬ (lc : Int) ≤ k := by omega
  unfold maxLen at hlm hlfm
  have hput : ∀ W, Below w.heap.size w W → Calls Tryd.prog 44 #[.agg #[.int .i64 op, .int .i64 a, .int .i64 b, .int .i64 c, .int .u64 m]] W fun e w' => ∃ g, e = .returned (.tuple #[.slice (some ⟨g, 0, none⟩) 12 12, .int .i64 0]) ∧ W.heap.size ≤ g ∧ Blk w' g 5 ((Cd.bts op a b c m).map (Value.int .u8)).toArray ∧ Below W.heap.size W w' := fun W hW => put_ok op a b c m W (ho.below hW hp) hbad hrng.1 hrng.2
  have HPUT := Lib.hid hput
  have HLD := Lib.hid hld
  clear hput hld hrng hbad i0 i1 i2 i3 i4 hcc hi hR hlc hk ho
  go_enter Tryd.func36, Tryd.ntmps36
  go_wp2_with fail
  have hB : Below w.heap.size w ((w.alloc (.cells #[.int .i64 mem, .int .i64 stk, .int .i64 inp, .slice Ad ld cd, .slice Af lf cf, .slice (some ⟨bc, oc, none⟩) lc cc] 26)).alloc (.cells #[.int .i64 op, .int .i64 a, .int .i64 b, .int .i64 c, .int .u64 m] 59)) := ((Below.refl _ _).alloc (Nat.le_refl _) _).alloc (by simp) _
  have h1 : ((w.alloc (.cells #[.int .i64 mem, .int .i64 stk, .int .i64 inp, .slice Ad ld cd, .slice Af lf cf, .slice (some ⟨bc, oc, none⟩) lc cc] 26)).alloc (.cells #[.int .i64 op, .int .i64 a, .int .i64 b, .int .i64 c, .int .u64 m] 59)).heap[w.heap.size]? = some (.cells #[.int .i64 mem, .int .i64 stk, .int .i64 inp, .slice Ad ld cd, .slice Af lf cf, .slice (some ⟨bc, oc, none⟩) lc cc] 26) := ((Below.box _ _).block _ (by simp)).trans (heap_newM rfl)
  have h2 : ((w.alloc (.cells #[.int .i64 mem, .int .i64 stk, .int .i64 inp, .slice Ad ld cd, .slice Af lf cf, .slice (some ⟨bc, oc, none⟩) lc cc] 26)).alloc (.cells #[.int .i64 op, .int .i64 a, .int .i64 b, .int .i64 c, .int .u64 m] 59)).heap[w.heap.size + 1]? = some (.cells #[.int .i64 op, .int .i64 a, .int .i64 b, .int .i64 c, .int .u64 m] 59) := heap_newM (by simp)
  have hz : ((w.alloc (.cells #[.int .i64 mem, .int .i64 stk, .int .i64 inp, .slice Ad ld cd, .slice Af lf cf, .slice (some ⟨bc, oc, none⟩) lc cc] 26)).alloc (.cells #[.int .i64 op, .int .i64 a, .int .i64 b, .int .i64 c, .int .u64 m] 59)).heap.size = w.heap.size + 2 := by simp
  generalize (w.alloc (.cells #[.int .i64 mem, .int .i64 stk, .int .i64 inp, .slice Ad ld cd, .slice Af lf cf, .slice (some ⟨bc, oc, none⟩) lc cc] 26)).alloc (.cells #[.int .i64 op, .int .i64 a, .int .i64 b, .int .i64 c, .int .u64 m] 59) = w1 at *
  refine (HPUT.out _ hB).mono ?_
  rintro e v ⟨g, rfl, _, _, hb⟩
  have q4 : v.cell? ⟨w.heap.size, 4, none⟩ = some (.slice Af lf cf) := cells_below hb (row_cell h1 4) (by omega)
  have t0 : v.cell? ⟨w.heap.size + 1, 0, none⟩ = some (.int .i64 op) := cells_below hb (row_cell h2 0) (by omega)
  have t4 : v.cell? ⟨w.heap.size + 1, 4, none⟩ = some (.int .u64 m) := cells_below hb (row_cell h2 4) (by omega)
  have HB := Lib.hid (hB.trans (hb.mono hB.size))
  clear hb hB h1 h2 hz j0 j1 j2 j3 j4
  by_cases h23 : op = 23
  · have hm := HLD.out h23
    have hm' : m < (lf : Int) := by omega
    have e1 : IntKind.u64.wrap (lf : Int) = lf := by rw [IntKind.wrap_u64]; omega
    subst h23
    go_wp2
    go_ret
    exact ⟨rfl, HB.out⟩
  · have h23' : (op != 23) = true := by simpa using h23
    clear h23
    go_wp2
    go_ret
    exact ⟨rfl, HB.out⟩
end Go.Proofs.YtfhnigfghfmolaaDoor
namespace Go.Proofs.YtfhnigfghfmolaaDoor
set_option maxRecDepth 100000
open Go.RowKit

namespace Mc
def keeps (r : St × Int × Int) : Prop := Cd.isB r.1.mm
theorem keeps_ite {c : Prop} [Decidable c] {x y : St × Int × Int} (h : keeps x) (k : keeps y) : keeps (if c then x else y) := by
  split
  · exact h
  · exact k
theorem act_isB {p : Im.Pic} {xs : List Int} {i : Im.I5} {s : St} {nx : Int} (h : Cd.isB s.mm) : keeps (act p xs i s nx) := by
  unfold act
  repeat' (first
    | exact h
    | exact sav_isB h
    | refine keeps_ite ?_ ?_)
theorem step_isB {p : Im.Pic} {xs : List Int} {s : St} (h : Cd.isB s.mm) : Cd.isB (step p xs s).1.mm := by
  unfold step
  split
  · exact act_isB h
  · exact h
end Mc
theorem ret_st2 {fn : Func} {p q : Tmp} {R : Ending → World → Prop} {a : Act} {w : World} (g : Nat) (cs : Array Value) (v : Value) (hr : w.heap[g]? = some (.cells cs 43 (0, 0))) (hc : cs.size = 11) (hf : fn.results = #[.cell p 43, .tmp q]) (hd : a.defers = []) (hp : a.tmps.getD p undef = .pointer (some ⟨g, 0, none⟩)) (hq : a.tmps.getD q undef = v) (hR : R (.returned (.tuple #[.agg cs, v])) w) :
    bodyPost Tryd.prog fn R .ret a w := by
  have hp' : a.tmps[p]?.getD undef = .pointer (some ⟨g, 0, none⟩) := by simpa using hp
  have hq' : a.tmps[q]?.getD undef = v := by simpa using hq
  refine bodyPost_ret (v := .tuple #[.agg cs, v]) ?_ hd hR
  simp [results, hf, hp', hq', asAddr, run_loadVar_row w g 43 43 cs (0, 0) _ hr Tryd.underlying43 rfl (size43 cs hc)]

/-- A state's value. -/
abbrev stC (s : Mc.St) (M O : Value) : Array Value := #[.int .i64 s.pl, .int .u64 (s.rg.getD 0 0), .int .u64 (s.rg.getD 1 0), .int .u64 (s.rg.getD 2 0), .int .u64 (s.rg.getD 3 0), .int .u64 (s.rg.getD 4 0), .int .u64 (s.rg.getD 5 0), .int .u64 (s.rg.getD 6 0), .int .u64 (s.rg.getD 7 0), M, O]

set_option maxRecDepth 20000 in
set_option maxHeartbeats 6400000 in
theorem Step_any (H : Hd) (pl r0 r1 r2 r3 r4 r5 r6 r7 : Int) (mA : Option Addr) (mn mcap : Nat) (oA : Option Addr) (on ocap : Nat) (mm op : List Int) (w : World) (ho : Ops w) (HA : HdAt w H) (hR : Mc.R H.p) (hok : Mc.Ok1 H.p ⟨pl, [r0, r1, r2, r3, r4, r5, r6, r7], mm, op⟩) (hml : mn ≤ 1000) (hm : BySl w mA mn mcap mm) (hp : InSl w oA on ocap op) :
    Calls Tryd.prog 19 #[.agg #[.int .i64 H.mem, .int .i64 H.stk, .int .i64 H.inp, .slice H.Ad H.ld H.cd, .slice H.Af H.lf H.cf, .slice H.Ac H.lc H.cc], .slice H.Ai H.li H.ci, .agg #[.int .i64 pl, .int .u64 r0, .int .u64 r1, .int .u64 r2, .int .u64 r3, .int .u64 r4, .int .u64 r5, .int .u64 r6, .int .u64 r7, .slice mA mn mcap, .slice oA on ocap]] w fun e w' => ∃ mA' mcap' oA' ocap', 
      e = .returned (.tuple #[.agg (stC (Mc.step H.p H.xs ⟨pl, [r0, r1, r2, r3, r4, r5, r6, r7], mm, op⟩).1 (.slice mA' (Mc.step H.p H.xs ⟨pl, [r0, r1, r2, r3, r4, r5, r6, r7], mm, op⟩).1.mm.length mcap') (.slice oA' (Mc.step H.p H.xs ⟨pl, [r0, r1, r2, r3, r4, r5, r6, r7], mm, op⟩).1.op.length ocap')), .int .i64 (Mc.step H.p H.xs ⟨pl, [r0, r1, r2, r3, r4, r5, r6, r7], mm, op⟩).2]) ∧
        (w'.ownsRow w.heap.size 5 1 (.slice mA' (Mc.step H.p H.xs ⟨pl, [r0, r1, r2, r3, r4, r5, r6, r7], mm, op⟩).1.mm.length mcap') (Mc.step H.p H.xs ⟨pl, [r0, r1, r2, r3, r4, r5, r6, r7], mm, op⟩).1.mm.length ((Mc.step H.p H.xs ⟨pl, [r0, r1, r2, r3, r4, r5, r6, r7], mm, op⟩).1.mm.map (Value.int .u8)) ∧ Cd.isB (Mc.step H.p H.xs ⟨pl, [r0, r1, r2, r3, r4, r5, r6, r7], mm, op⟩).1.mm) ∧ w'.ownsRow w.heap.size 3 1 (.slice oA' (Mc.step H.p H.xs ⟨pl, [r0, r1, r2, r3, r4, r5, r6, r7], mm, op⟩).1.op.length ocap') (Mc.step H.p H.xs ⟨pl, [r0, r1, r2, r3, r4, r5, r6, r7], mm, op⟩).1.op.length ((Mc.step H.p H.xs ⟨pl, [r0, r1, r2, r3, r4, r5, r6, r7], mm, op⟩).1.op.map (Value.int .i64)) ∧ Below w.heap.size w w' := by
  obtain ⟨k, rfl⟩ : ∃ k : Nat, pl = k := Int.eq_ofNat_of_zero_le hok.p0
  have hkl : k < H.p.cs.length := by have := hok.p1; simp only at this; omega
  have hpo := ho.pos
  obtain ⟨r, hr⟩ : ∃ r, Mc.step H.p H.xs ⟨(k : Int), [r0, r1, r2, r3, r4, r5, r6, r7], mm, op⟩ = r := ⟨_, rfl⟩
  rw [hr]
  obtain ⟨⟨pl', rg', mm', op'⟩, en⟩ := r
  simp only [stC]
  obtain ⟨z0, g0⟩ : ∃ z, rg'.getD 0 0 = z := ⟨_, rfl⟩
  obtain ⟨z1, g1⟩ : ∃ z, rg'.getD 1 0 = z := ⟨_, rfl⟩
  obtain ⟨z2, g2⟩ : ∃ z, rg'.getD 2 0 = z := ⟨_, rfl⟩
  obtain ⟨z3, g3⟩ : ∃ z, rg'.getD 3 0 = z := ⟨_, rfl⟩
  obtain ⟨z4, g4⟩ : ∃ z, rg'.getD 4 0 = z := ⟨_, rfl⟩
  obtain ⟨z5, g5⟩ : ∃ z, rg'.getD 5 0 = z := ⟨_, rfl⟩
  obtain ⟨z6, g6⟩ : ∃ z, rg'.getD 6 0 = z := ⟨_, rfl⟩
  obtain ⟨z7, g7⟩ : ∃ z, rg'.getD 7 0 = z := ⟨_, rfl⟩
  rw [g0, g1, g2, g3, g4, g5, g6, g7]
  have HG := Lib.hid (And.intro g0 (And.intro g1 (And.intro g2 (And.intro g3 (And.intro g4 (And.intro g5 (And.intro g6 g7)))))))
  have hib : Cd.isB mm' := by have := Mc.step_isB (p := H.p) (xs := H.xs) hok.mb; rw [hr] at this; exact this
  have HISB := Lib.hid hib
  have HRE := Lib.hid hr
  clear g0 g1 g2 g3 g4 g5 g6 g7 hr hib
  have HH := Lib.hid HA
  have HO := Lib.hid ho
  have HR := Lib.hid hR
  have HOK := Lib.hid hok
  have HM := Lib.hid hm
  have HP := Lib.hid hp
  have hmn := hm.hlen
  have hon := hp.hlen
  have hol := hok.ol
  simp only at hol
  clear HA ho hR hok hm hp
  go_enter Tryd.func19, Tryd.ntmps19
  go_wp2_with fail
  have hB : Below w.heap.size w (((w.alloc (.cells #[.int .i64 H.mem, .int .i64 H.stk, .int .i64 H.inp, .slice H.Ad H.ld H.cd, .slice H.Af H.lf H.cf, .slice H.Ac H.lc H.cc] 26)).alloc (.cells #[.int .i64 (k : Int), .int .u64 r0, .int .u64 r1, .int .u64 r2, .int .u64 r3, .int .u64 r4, .int .u64 r5, .int .u64 r6, .int .u64 r7, .slice mA mn mcap, .slice oA on ocap] 43)).alloc (.cells #[.int .i64 0, .int .u64 0, .int .u64 0, .int .u64 0, .int .u64 0, .int .u64 0, .int .u64 0, .int .u64 0, .int .u64 0, .slice none 0 0, .slice none 0 0] 43)) := (((Below.refl _ _).alloc (Nat.le_refl _) _).alloc (by simp) _).alloc (by simp; omega) _
  have hT := three w (.cells #[.int .i64 H.mem, .int .i64 H.stk, .int .i64 H.inp, .slice H.Ad H.ld H.cd, .slice H.Af H.lf H.cf, .slice H.Ac H.lc H.cc] 26) (.cells #[.int .i64 (k : Int), .int .u64 r0, .int .u64 r1, .int .u64 r2, .int .u64 r3, .int .u64 r4, .int .u64 r5, .int .u64 r6, .int .u64 r7, .slice mA mn mcap, .slice oA on ocap] 43) (.cells #[.int .i64 0, .int .u64 0, .int .u64 0, .int .u64 0, .int .u64 0, .int .u64 0, .int .u64 0, .int .u64 0, .int .u64 0, .slice none 0 0, .slice none 0 0] 43)
  have hz : (((w.alloc (.cells #[.int .i64 H.mem, .int .i64 H.stk, .int .i64 H.inp, .slice H.Ad H.ld H.cd, .slice H.Af H.lf H.cf, .slice H.Ac H.lc H.cc] 26)).alloc (.cells #[.int .i64 (k : Int), .int .u64 r0, .int .u64 r1, .int .u64 r2, .int .u64 r3, .int .u64 r4, .int .u64 r5, .int .u64 r6, .int .u64 r7, .slice mA mn mcap, .slice oA on ocap] 43)).alloc (.cells #[.int .i64 0, .int .u64 0, .int .u64 0, .int .u64 0, .int .u64 0, .int .u64 0, .int .u64 0, .int .u64 0, .int .u64 0, .slice none 0 0, .slice none 0 0] 43)).heap.size = w.heap.size + 3 := by simp
  generalize ((w.alloc (.cells #[.int .i64 H.mem, .int .i64 H.stk, .int .i64 H.inp, .slice H.Ad H.ld H.cd, .slice H.Af H.lf H.cf, .slice H.Ac H.lc H.cc] 26)).alloc (.cells #[.int .i64 (k : Int), .int .u64 r0, .int .u64 r1, .int .u64 r2, .int .u64 r3, .int .u64 r4, .int .u64 r5, .int .u64 r6, .int .u64 r7, .slice mA mn mcap, .slice oA on ocap] 43)).alloc (.cells #[.int .i64 0, .int .u64 0, .int .u64 0, .int .u64 0, .int .u64 0, .int .u64 0, .int .u64 0, .int .u64 0, .int .u64 0, .slice none 0 0, .slice none 0 0] 43) = w1 at *
  have HB := Lib.hid hB
  have HT := Lib.hid hT
  have HZ := Lib.hid hz
  clear hB hT hz
  refine held_tail (S := fun W => Below w1.heap.size w1 W) 7 (by kernel_rfl) (by simp) (Below.refl _ _).drew (fun hHeld => ?_)
  refine headS_take (i := 0) (v := .pointer (some ⟨w.heap.size + 1, 9, none⟩)) rfl (by kernel_rfl) (fun _ _ _ h => h) (Or.inl ⟨by rfl, fun w9 hSw => ?_⟩) hHeld ?_
  · (try dsimp only at hSw)
    go_simp
  try simp only [List.getElem_toArray, List.getElem_cons_succ, List.getElem_cons_zero, Act.put, List.setIfInBounds_toArray, List.set_cons_zero, List.set_cons_succ]
  refine headS_take (i := 1) (v := .slice mA mn mcap) rfl (by kernel_rfl) (fun _ _ _ h => h) (Or.inl ⟨by rfl, fun w9 hSw => ?_⟩) hHeld ?_
  · (try dsimp only at hSw)
    have q9 : w9.cell? ⟨w.heap.size + 1, 9, none⟩ = some (.slice mA mn mcap) := cells_below hSw (row_cell HT.out.2.1 9) (by have := HZ.out; omega)
    go_simp
  try simp only [List.getElem_toArray, List.getElem_cons_succ, List.getElem_cons_zero, Act.put, List.setIfInBounds_toArray, List.set_cons_zero, List.set_cons_succ]
  refine headS_take (i := 3) (v := .pointer (some ⟨w.heap.size + 1, 10, none⟩)) rfl (by kernel_rfl) (fun _ _ _ h => h) (Or.inl ⟨by rfl, fun w9 hSw => ?_⟩) hHeld ?_
  · (try dsimp only at hSw)
    go_simp
  try simp only [List.getElem_toArray, List.getElem_cons_succ, List.getElem_cons_zero, Act.put, List.setIfInBounds_toArray, List.set_cons_zero, List.set_cons_succ]
  refine headS_take (i := 4) (v := .slice oA on ocap) rfl (by kernel_rfl) (fun _ _ _ h => h) (Or.inl ⟨by rfl, fun w9 hSw => ?_⟩) hHeld ?_
  · (try dsimp only at hSw)
    have q10 : w9.cell? ⟨w.heap.size + 1, 10, none⟩ = some (.slice oA on ocap) := cells_below hSw (row_cell HT.out.2.1 10) (by have := HZ.out; omega)
    go_simp
  try simp only [List.getElem_toArray, List.getElem_cons_succ, List.getElem_cons_zero, Act.put, List.setIfInBounds_toArray, List.set_cons_zero, List.set_cons_succ]
  refine headS_ready (rs := [2]) (by kernel_rfl) (by simp) (by rfl) ?_
  refine AllS.cons rfl (fun K hK => ?_) AllS.nil
  go_simp
  go_at_call 34
  refine (bclone_any mA mn mcap mm _ (HM.out.below (HB.out.trans ((Below.refl _ _).drew.mono HB.out.size))) hml).mono ?_
  rintro e v ⟨mA', mcap', rfl, hmo, hbv⟩
  have hBv : Below w1.heap.size w1 v := (Below.refl _ _).drew.trans hbv
  refine hK.out _ _ hBv (fun hHeld => ?_)
  clear hK K
  try simp only [List.getElem_toArray, List.getElem_cons_succ, List.getElem_cons_zero, Act.put, List.setIfInBounds_toArray, List.set_cons_zero, List.set_cons_succ]
  refine headS_take (i := 6) (v := .pointer (some ⟨w.heap.size + 1, 9, none⟩)) rfl (by kernel_rfl) (fun _ _ _ h => h) (Or.inl ⟨by rfl, fun w9 hSw => ?_⟩) hHeld ?_
  · (try dsimp only at hSw)
    go_simp
  try simp only [List.getElem_toArray, List.getElem_cons_succ, List.getElem_cons_zero, Act.put, List.setIfInBounds_toArray, List.set_cons_zero, List.set_cons_succ]
  refine headS_ready (rs := [5]) (by kernel_rfl) (by simp) (by rfl) ?_
  refine AllS.cons rfl (fun K hK => ?_) AllS.nil
  go_simp
  go_at_call 35
  refine (iclone_any oA on ocap op _ (HP.out.below (HB.out.trans (hBv.mono HB.out.size))) (by omega)).mono ?_
  rintro e v2 ⟨oA', ocap', rfl, hoo, hbv2⟩
  have hBv2 : Below w1.heap.size w1 v2 := hBv.trans (hbv2.mono hBv.size)
  refine hK.out _ _ hBv2 (fun hHeld => ?_)
  clear hK K
  try simp only [List.getElem_toArray, List.getElem_cons_succ, List.getElem_cons_zero, Act.put, List.setIfInBounds_toArray, List.set_cons_zero, List.set_cons_succ]
  refine ⟨by kernel_rfl, ?_⟩
  simp only [List.drop_succ_cons, List.drop_zero]
  have hmo2 : v2.ownsRow w1.heap.size 5 1 (.slice mA' mn mcap') mn (mm.map (Value.int .u8)) := own_below (Joins.ownsRow_le hmo (by simp)) hbv2
  have hne : ∀ k, (Value.slice mA' mn mcap').ownBlock = some k → (Value.slice oA' on ocap').ownBlock ≠ some k := fun k h1 h2 => by
    have := (hmo.lt k h1).2
    have := (hoo.lt k h2).1
    omega
  have hoo2 : v2.ownsRow w1.heap.size 3 1 (.slice oA' on ocap') on (op.map (Value.int .i64)) := Joins.ownsRow_le hoo hBv.size
  have x0 := (hBv2.block _ (by have := HZ.out; omega)).trans HT.out.1
  have x1 := (hBv2.block _ (by have := HZ.out; omega)).trans HT.out.2.1
  have x2 := (hBv2.block _ (by have := HZ.out; omega)).trans HT.out.2.2
  have c9 : v2.cell? ⟨w.heap.size + 1, 9, none⟩ = some (.slice mA mn mcap) := row_cell x1 9
  have f9 := Joins.unfrozen_of_block x1 9
  have c10 : ∀ V, (v2.setCell ⟨w.heap.size + 1, 9, none⟩ V).cell? ⟨w.heap.size + 1, 10, none⟩ = some (.slice oA on ocap) := fun V => row_cell (Joins.block_setCell x1 V) 10
  have f10 : ∀ V, (v2.setCell ⟨w.heap.size + 1, 9, none⟩ V).frozen? ⟨w.heap.size + 1, 10, none⟩ = false := fun V => Joins.unfrozen_of_block (Joins.block_setCell x1 V) 10
  have x1' : ((v2.setCell ⟨w.heap.size + 1, 9, none⟩ (.slice mA' mn mcap')).setCell ⟨w.heap.size + 1, 10, none⟩ (.slice oA' on ocap')).heap[w.heap.size + 1]? = some (.cells #[.int .i64 (k : Int), .int .u64 r0, .int .u64 r1, .int .u64 r2, .int .u64 r3, .int .u64 r4, .int .u64 r5, .int .u64 r6, .int .u64 r7, .slice mA' mn mcap', .slice oA' on ocap'] 43 (0, 0)) := Joins.block_setCell (Joins.block_setCell x1 _) _
  have x0' : ((v2.setCell ⟨w.heap.size + 1, 9, none⟩ (.slice mA' mn mcap')).setCell ⟨w.heap.size + 1, 10, none⟩ (.slice oA' on ocap')).heap[w.heap.size]? = some (.cells #[.int .i64 H.mem, .int .i64 H.stk, .int .i64 H.inp, .slice H.Ad H.ld H.cd, .slice H.Af H.lf H.cf, .slice H.Ac H.lc H.cc] 26 (0, 0)) := (Below.heap_setCell _ _ _ _ (by simp)).trans ((Below.heap_setCell _ _ _ _ (by simp)).trans x0)
  have x2' : ((v2.setCell ⟨w.heap.size + 1, 9, none⟩ (.slice mA' mn mcap')).setCell ⟨w.heap.size + 1, 10, none⟩ (.slice oA' on ocap')).heap[w.heap.size + 1 + 1]? = some (.cells #[.int .i64 0, .int .u64 0, .int .u64 0, .int .u64 0, .int .u64 0, .int .u64 0, .int .u64 0, .int .u64 0, .int .u64 0, .slice none 0 0, .slice none 0 0] 43 (0, 0)) := (Below.heap_setCell _ _ _ _ (by simp)).trans ((Below.heap_setCell _ _ _ _ (by simp)).trans x2)
  have gb : ∀ V1 V2, v2.grownBy ((v2.setCell ⟨w.heap.size + 1, 9, none⟩ V1).setCell ⟨w.heap.size + 1, 10, none⟩ V2) (some (w.heap.size + 1)) := fun V1 V2 => ⟨rfl, rfl, rfl, by simp, fun k hk hne => (Below.heap_setCell _ _ _ _ (fun e => hne (by rw [e]))).trans (Below.heap_setCell _ _ _ _ (fun e => hne (by rw [e])))⟩
  have kp : ∀ {ty : Nat} {V : Value} {nn : Nat} {l : List Value}, v2.ownsRow w1.heap.size ty 1 V nn l → ∀ V1 V2, ((v2.setCell ⟨w.heap.size + 1, 9, none⟩ V1).setCell ⟨w.heap.size + 1, 10, none⟩ V2).ownsRow w1.heap.size ty 1 V nn l := fun h V1 V2 => ownsRow.blk h fun k hk => (gb V1 V2).block k (h.lt k hk).2 (fun e => by injection e with e; have := (h.lt k hk).1; have := HZ.out; omega)
  have hB3 : ∀ V1 V2, Below w.heap.size w ((v2.setCell ⟨w.heap.size + 1, 9, none⟩ V1).setCell ⟨w.heap.size + 1, 10, none⟩ V2) := fun V1 V2 => (HB.out.trans (hBv2.mono HB.out.size)).grown (gb V1 V2) (Nat.le_trans HB.out.size hBv2.size) (fun k hk => by injection hk with hk; omega)
  have y0 : v2.cell? ⟨w.heap.size, 0, none⟩ = some (.int .i64 H.mem) := row_cell x0 0
  have y1 : v2.cell? ⟨w.heap.size, 1, none⟩ = some (.int .i64 H.stk) := row_cell x0 1
  have y2 : v2.cell? ⟨w.heap.size, 2, none⟩ = some (.int .i64 H.inp) := row_cell x0 2
  have y3 : v2.cell? ⟨w.heap.size, 3, none⟩ = some (.slice H.Ad H.ld H.cd) := row_cell x0 3
  have y4 : v2.cell? ⟨w.heap.size, 4, none⟩ = some (.slice H.Af H.lf H.cf) := row_cell x0 4
  have y5 : v2.cell? ⟨w.heap.size, 5, none⟩ = some (.slice H.Ac H.lc H.cc) := row_cell x0 5
  have yp : v2.cell? ⟨w.heap.size + 1, 0, none⟩ = some (.int .i64 (k : Int)) := row_cell x1 0
  have HB3 := Lib.hid (hB3 (.slice mA' mn mcap') (.slice oA' on ocap'))
  have HMO := Lib.hid (kp hmo2 (.slice mA' mn mcap') (.slice oA' on ocap'))
  have HOO := Lib.hid (kp hoo2 (.slice mA' mn mcap') (.slice oA' on ocap'))
  have HNE := Lib.hid hne
  have X0 := Lib.hid x0'
  have X1 := Lib.hid x1'
  have X2 := Lib.hid x2'
  have hz2 : w1.heap.size ≤ ((v2.setCell ⟨w.heap.size + 1, 9, none⟩ (.slice mA' mn mcap')).setCell ⟨w.heap.size + 1, 10, none⟩ (.slice oA' on ocap')).heap.size := by have := hBv2.size; simpa using this
  have HZ2 := Lib.hid hz2
  clear hmo hoo hmo2 hoo2 hne x0 x1 x2 x0' x1' x2' gb kp hB3 hBv hBv2 hbv hbv2 hHeld hz2
  go_wp2_with fail
  generalize (v2.setCell ⟨w.heap.size + 1, 9, none⟩ (.slice mA' mn mcap')).setCell ⟨w.heap.size + 1, 10, none⟩ (.slice oA' on ocap') = v3 at *
  clear y0 y1 y2 y3 y4 y5 yp c9 f9 c10 f10
  refine (can_any _ _ _ _ _ _ _ _ _ _ _ _ H.p k v3 (HO.out.below HB3.out hpo) (HH.out.below HB3.out).img HR.out hkl).mono ?_
  rintro e v4 ⟨rfl, hb⟩
  have x0 := (hb.block _ (by have := HZ.out; have := HZ2.out; omega)).trans X0.out
  have x1 := (hb.block _ (by have := HZ.out; have := HZ2.out; omega)).trans X1.out
  have x2 := (hb.block _ (by have := HZ.out; have := HZ2.out; omega)).trans X2.out
  have HMO4 := Lib.hid (own_below HMO.out hb)
  have HOO4 := Lib.hid (own_below HOO.out hb)
  have HB4 := Lib.hid (HB3.out.trans (hb.mono HB3.out.size))
  have HZ4 := Lib.hid (Nat.le_trans HZ2.out hb.size)
  have X2' := Lib.hid x2
  have y0 : v4.cell? ⟨w.heap.size, 0, none⟩ = some (.int .i64 H.mem) := row_cell x0 0
  have y1 : v4.cell? ⟨w.heap.size, 1, none⟩ = some (.int .i64 H.stk) := row_cell x0 1
  have y2 : v4.cell? ⟨w.heap.size, 2, none⟩ = some (.int .i64 H.inp) := row_cell x0 2
  have y3 : v4.cell? ⟨w.heap.size, 3, none⟩ = some (.slice H.Ad H.ld H.cd) := row_cell x0 3
  have y4 : v4.cell? ⟨w.heap.size, 4, none⟩ = some (.slice H.Af H.lf H.cf) := row_cell x0 4
  have y5 : v4.cell? ⟨w.heap.size, 5, none⟩ = some (.slice H.Ac H.lc H.cc) := row_cell x0 5
  have s0 : v4.cell? ⟨w.heap.size + 1, 0, none⟩ = some (.int .i64 (k : Int)) := row_cell x1 0
  have s1 : v4.cell? ⟨w.heap.size + 1, 1, none⟩ = some (.int .u64 r0) := row_cell x1 1
  have s2 : v4.cell? ⟨w.heap.size + 1, 2, none⟩ = some (.int .u64 r1) := row_cell x1 2
  have s3 : v4.cell? ⟨w.heap.size + 1, 3, none⟩ = some (.int .u64 r2) := row_cell x1 3
  have s4 : v4.cell? ⟨w.heap.size + 1, 4, none⟩ = some (.int .u64 r3) := row_cell x1 4
  have s5 : v4.cell? ⟨w.heap.size + 1, 5, none⟩ = some (.int .u64 r4) := row_cell x1 5
  have s6 : v4.cell? ⟨w.heap.size + 1, 6, none⟩ = some (.int .u64 r5) := row_cell x1 6
  have s7 : v4.cell? ⟨w.heap.size + 1, 7, none⟩ = some (.int .u64 r6) := row_cell x1 7
  have s8 : v4.cell? ⟨w.heap.size + 1, 8, none⟩ = some (.int .u64 r7) := row_cell x1 8
  have s9 : v4.cell? ⟨w.heap.size + 1, 9, none⟩ = some (.slice mA' mn mcap') := row_cell x1 9
  have s10 : v4.cell? ⟨w.heap.size + 1, 10, none⟩ = some (.slice oA' on ocap') := row_cell x1 10
  clear hb x0 x1 x2
  go_wp2_with fail
  refine (newRunner_any _ _ _ _ _ _ _ _ _ _ _ _ _ _ _ _ _ _ _ _ _ _ _ _ _ _ _).mono ?_
  rintro e v5 ⟨g, rfl, hg, hrb, hb⟩
  have hRn : Rn H w g (.slice mA' mn mcap') (.slice oA' on ocap') ⟨(k : Int), [r0, r1, r2, r3, r4, r5, r6, r7], mm, op⟩ 0 v5 := by
    refine ⟨HB4.out.trans (hb.mono HB4.out.size), ⟨_, hrb, Rc.new H _ _ _ _ _ _ _ _ _ _ _ _ _⟩, ?_, ?_, by have := HB4.out.size; omega, ?_, ?_, HNE.out⟩
    · simp only
      rw [hmn]
      exact Joins.ownsRow_le (own_below HMO4.out hb) HB.out.size
    · simp only
      rw [hon]
      exact Joins.ownsRow_le (own_below HOO4.out hb) HB.out.size
    · intro e; have := (HMO4.out.lt g e).2; omega
    · intro e; have := (HOO4.out.lt g e).2; omega
  have x2 := (hb.block _ (by have := HZ.out; have := HZ4.out; omega)).trans X2'.out
  have hst := step_any H w g (.slice mA' mn mcap') (.slice oA' on ocap') _ 0 v5 HH.out hRn HR.out HOK.out
  rw [HRE.out] at hst
  have HST := Lib.hid hst
  have X5 := Lib.hid x2
  have HZ5 := Lib.hid (show w.heap.size + 3 ≤ v5.heap.size ∧ w.heap.size + 3 ≤ g from ⟨by have := hb.size; have := HZ.out; have := HZ4.out; omega, by have := HZ.out; have := HZ4.out; omega⟩)
  have HRN5 := Lib.hid hRn
  clear hb hrb hg hRn x2 hst y0 y1 y2 y3 y4 y5 s0 s1 s2 s3 s4 s5 s6 s7 s8 s9 s10
  go_wp2_with fail
  refine HST.out.mono ?_
  rintro e v6 ⟨O', nx', rfl, hRn, hfr, hor⟩
  obtain ⟨cv, hbv, hcv⟩ := hRn.row
  obtain ⟨mA2, mcap2, hM2, _⟩ := own_open hRn.mo
  obtain ⟨oA2, ocap2, hO2, _⟩ := own_open hRn.oo
  have hmo := hRn.mo
  have hoo := hRn.oo
  have c16 := hcv.c16
  have c17 := hcv.c17
  simp only at hM2 hO2 hmo hoo
  rw [hM2] at hmo c16
  rw [hO2] at hoo c17
  have k7 : v6.cell? ⟨g, 7, none⟩ = some (.int .i64 pl') := (hbv.c 7).trans hcv.c7
  have k8 : v6.cell? ⟨g, 8, none⟩ = some (.int .u64 z0) := (hbv.c 8).trans ((hcv.rg 0 (by decide)).trans (by rw [← HG.out.1]))
  have k9 : v6.cell? ⟨g, 9, none⟩ = some (.int .u64 z1) := (hbv.c 9).trans ((hcv.rg 1 (by decide)).trans (by rw [← HG.out.2.1]))
  have k10 : v6.cell? ⟨g, 10, none⟩ = some (.int .u64 z2) := (hbv.c 10).trans ((hcv.rg 2 (by decide)).trans (by rw [← HG.out.2.2.1]))
  have k11 : v6.cell? ⟨g, 11, none⟩ = some (.int .u64 z3) := (hbv.c 11).trans ((hcv.rg 3 (by decide)).trans (by rw [← HG.out.2.2.2.1]))
  have k12 : v6.cell? ⟨g, 12, none⟩ = some (.int .u64 z4) := (hbv.c 12).trans ((hcv.rg 4 (by decide)).trans (by rw [← HG.out.2.2.2.2.1]))
  have k13 : v6.cell? ⟨g, 13, none⟩ = some (.int .u64 z5) := (hbv.c 13).trans ((hcv.rg 5 (by decide)).trans (by rw [← HG.out.2.2.2.2.2.1]))
  have k14 : v6.cell? ⟨g, 14, none⟩ = some (.int .u64 z6) := (hbv.c 14).trans ((hcv.rg 6 (by decide)).trans (by rw [← HG.out.2.2.2.2.2.2.1]))
  have k15 : v6.cell? ⟨g, 15, none⟩ = some (.int .u64 z7) := (hbv.c 15).trans ((hcv.rg 7 (by decide)).trans (by rw [← HG.out.2.2.2.2.2.2.2]))
  have k16 := (hbv.c 16).trans c16
  have k17 := (hbv.c 17).trans c17
  have x6 : v6.heap[w.heap.size + 1 + 1]? = some (.cells #[.int .i64 0, .int .u64 0, .int .u64 0, .int .u64 0, .int .u64 0, .int .u64 0, .int .u64 0, .int .u64 0, .int .u64 0, .slice none 0 0, .slice none 0 0] 43 (0, 0)) := (hfr.block _ (by have := HZ5.out; omega) (by have := HZ5.out; omega) (fun e => by have := (HRN5.out.mo.lt _ e.symm).1; have := (HMO4.out.lt _ e.symm).1; have := HZ.out; omega) (fun e => by have := (HOO4.out.lt _ e.symm).1; have := HZ.out; omega)).trans X5.out
  have hmb : ∀ j, (Value.slice mA2 mm'.length mcap2).ownBlock = some j → w.heap.size + 3 ≤ j := fun j hj => by
    have := (HMO4.out.lt j (by rw [hM2]; exact hj)).1
    have := HZ.out
    omega
  have hob : ∀ j, (Value.slice oA2 op'.length ocap2).ownBlock = some j → w.heap.size + 3 ≤ j := fun j hj => by
    rcases hor with h1 | ⟨i, h1, h2⟩
    · have := (HOO4.out.lt j (by rw [← h1, hO2]; exact hj)).1
      have := HZ.out
      omega
    · rw [hO2, hj] at h1
      injection h1 with h1
      have := HZ5.out
      omega
  have HMBB := Lib.hid hmb
  have HOBB := Lib.hid hob
  have HX6 := Lib.hid x6
  have HB6 := Lib.hid hRn.bel
  have hby : BySl v6 mA2 mm'.length mcap2 mm' := BySl.of_own hmo (HISB.out)
  have hin : InSl v6 oA2 op'.length ocap2 op' := InSl.of_own hoo
  have HBY := Lib.hid (And.intro hmo HISB.out)
  have HIN := Lib.hid hoo
  have h1c : (#[.int .i64 pl', .int .u64 z0, .int .u64 z1, .int .u64 z2, .int .u64 z3, .int .u64 z4, .int .u64 z5, .int .u64 z6, .int .u64 z7, .slice mA2 mm'.length mcap2, .slice oA2 op'.length ocap2] : Array Value).all (·.oneCell') = true := by simp [Value.oneCell']
  have H1C := Lib.hid h1c
  clear hmb hob hbv hcv hM2 hO2 hmo hoo c16 c17 x6 hRn hfr hor hby hin h1c
  go_wp2_with (first | (with_reducible refine store_st (.tmp 6) (.tmp 33) _ _ #[.int .i64 pl', .int .u64 z0, .int .u64 z1, .int .u64 z2, .int .u64 z3, .int .u64 z4, .int .u64 z5, .int .u64 z6, .int .u64 z7, .slice mA2 mm'.length mcap2, .slice oA2 op'.length ocap2] HX6.out rfl rfl rfl rfl rfl rfl H1C.out ?_) | fail)
  refine ret_st2 (w.heap.size + 1 + 1) #[.int .i64 pl', .int .u64 z0, .int .u64 z1, .int .u64 z2, .int .u64 z3, .int .u64 z4, .int .u64 z5, .int .u64 z6, .int .u64 z7, .slice mA2 mm'.length mcap2, .slice oA2 op'.length ocap2] (.int .i64 en) (setRow_heap _ _ _ _ _ _ HX6.out) rfl rfl rfl rfl rfl ?_
  have kb := below_setRowM HB6.out (show w.heap.size ≤ w.heap.size + 1 + 1 by omega) #[.int .i64 pl', .int .u64 z0, .int .u64 z1, .int .u64 z2, .int .u64 z3, .int .u64 z4, .int .u64 z5, .int .u64 z6, .int .u64 z7, .slice mA2 mm'.length mcap2, .slice oA2 op'.length ocap2]
  have hown1 := ownsRow.blk HBY.out.1 (w' := v6.setRow (w.heap.size + 1 + 1) #[.int .i64 pl', .int .u64 z0, .int .u64 z1, .int .u64 z2, .int .u64 z3, .int .u64 z4, .int .u64 z5, .int .u64 z6, .int .u64 z7, .slice mA2 mm'.length mcap2, .slice oA2 op'.length ocap2]) fun j hj => setRow_other _ _ _ _ (by have := HMBB.out j hj; omega)
  have hown2 := ownsRow.blk HIN.out (w' := v6.setRow (w.heap.size + 1 + 1) #[.int .i64 pl', .int .u64 z0, .int .u64 z1, .int .u64 z2, .int .u64 z3, .int .u64 z4, .int .u64 z5, .int .u64 z6, .int .u64 z7, .slice mA2 mm'.length mcap2, .slice oA2 op'.length ocap2]) fun j hj => setRow_other _ _ _ _ (by have := HOBB.out j hj; omega)
  exact ⟨mA2, mcap2, oA2, ocap2, rfl, ⟨hown1, HBY.out.2⟩, hown2, kb⟩
end Go.Proofs.YtfhnigfghfmolaaDoor
namespace Go.Proofs.YtfhnigfghfmolaaDoor
set_option maxRecDepth 100000
open Go.RowKit

namespace Mc
theorem go_path {p : Im.Pic} {xs : List Int} : ∀ (n : Nat) (s : St) (path : List Int), ∃ l, (go p xs n s path).1 = path ++ l ∧ l.length ≤ n := by
  intro n
  induction n with
  | zero => intro s path; exact ⟨[], by simp [go], Nat.le_refl _⟩
  | succ n ih =>
    intro s path
    rw [go]
    split
    · obtain ⟨l, hl, hn⟩ := ih (step p xs s).1 (path ++ [(step p xs s).1.pl])
      exact ⟨(step p xs s).1.pl :: l, by rw [hl]; simp, by simp; omega⟩
    · exact ⟨[], by simp, by simp⟩
theorem go_more {p : Im.Pic} {xs : List Int} : ∀ (n m : Nat) (s : St) (path : List Int), ∃ l, (go p xs (n + m) s path).1 = (go p xs n s path).1 ++ l := by
  intro n
  induction n with
  | zero =>
    intro m s path
    obtain ⟨l, hl, _⟩ := go_path (p := p) (xs := xs) m s path
    exact ⟨l, by rw [Nat.zero_add, hl]; rfl⟩
  | succ n ih =>
    intro m s path
    rw [show n + 1 + m = (n + m) + 1 by omega, go, go]
    split
    · exact ih m _ _
    · exact ⟨[], by simp⟩
theorem answer_len (p : Im.Pic) (xs : List Int) (steps : Int) : ((answer p xs steps).1.length : Int) ≤ max steps 0 + 1 := by
  unfold answer
  split
  · simp only [List.length_nil]; omega
  · split
    · simp only [List.length_nil]; omega
    · obtain ⟨l, hl, hn⟩ := go_path (p := p) (xs := xs) (most steps) (start p) [0]
      show (((go p xs (most steps) (start p) [0]).1.length : Nat) : Int) ≤ _
      rw [hl]
      have : ((most steps : Nat) : Int) ≤ max steps 0 := by unfold most; omega
      simp
      omega
theorem answer_pre (p : Im.Pic) (xs : List Int) {a b : Int} (h : a ≤ b) : ∃ l, (answer p xs b).1 = (answer p xs a).1 ++ l := by
  unfold answer
  split
  · exact ⟨[], rfl⟩
  · split
    · exact ⟨[], rfl⟩
    · obtain ⟨d, hd⟩ : ∃ d, most b = most a + d := ⟨most b - most a, by unfold most; omega⟩
      obtain ⟨l, hl⟩ := go_more (p := p) (xs := xs) (most a) d (start p) [0]
      exact ⟨l, by show (go p xs (most b) (start p) [0]).1 = (go p xs (most a) (start p) [0]).1 ++ l; rw [hd]; exact hl⟩
theorem first_spec {l : List Int} {x : Int} (h : 0 ≤ first l x) : ∃ k : Nat, first l x = k ∧ k < l.length ∧ l.getD k 0 = x ∧ ∀ j, j < k → l.getD j 0 ≠ x := by
  unfold first at *
  split at h
  · rename_i h1
    rw [if_pos h1]
    refine ⟨_, rfl, h1, ?_, fun j hj => ?_⟩
    · have := List.findIdx_getElem (p := (· == x)) (xs := l) (w := h1)
      rw [List.getD_eq_getElem?_getD, List.getElem?_eq_getElem h1]
      simpa using this
    · have := List.not_of_lt_findIdx (p := (· == x)) (xs := l) hj
      rw [List.getD_eq_getElem?_getD, List.getElem?_eq_getElem (by omega)]
      simpa using this
  · omega
theorem first_pre {a l : List Int} {x : Int} (h : 0 ≤ first a x) : first (a ++ l) x = first a x := by
  obtain ⟨k, e, h1, h2, h3⟩ := first_spec h
  rw [e]
  have g : ∀ j, j < a.length → (a ++ l).getD j 0 = a.getD j 0 := fun j hj => by rw [List.getD_eq_getElem?_getD, List.getD_eq_getElem?_getD, List.getElem?_append_left hj]
  exact first_at (by simp; omega) (by rw [g k h1]; exact h2) fun j hj => by rw [g j (by omega)]; exact h3 j hj
end Mc

set_option maxRecDepth 20000 in
set_option maxHeartbeats 6400000 in
theorem reachL_walk (mem stk inp : Int) (Ad : Option Addr) (ld cd : Nat) (Af : Option Addr) (lf cf : Nat) (Ac : Option Addr) (lc cc : Nat) (P : Im.Pic) (Ai : Option Addr) (li ci : Nat) (xs : List Int) (t steps more : Int) (w : World) (ho : Ops w) (hi : ImAt w Ad ld cd Af lf cf Ac lc cc P) (e0 : P.mem = mem) (e1 : P.stk = stk) (e2 : P.inp = inp) (hx : BySl w Ai li ci xs) :
    Calls Tryd.prog 6 #[.agg #[.int .i64 mem, .int .i64 stk, .int .i64 inp, .slice Ad ld cd, .slice Af lf cf, .slice Ac lc cc], .slice Ai li ci, .int .i64 t, .int .i64 steps, .int .i64 more] w fun e w' => e = .returned (.bool true) ∧ Below w.heap.size w w' := by
  have hp := ho.pos
  have HA : HdAt w ⟨mem, stk, inp, Ad, ld, cd, Af, lf, cf, Ac, lc, cc, Ai, li, ci, P, xs⟩ := ⟨hi, e0, e1, e2, hx⟩
  have hld := Nat.le_trans hi.d.hle hi.d.hcap
  have hlf := Nat.le_trans hi.f.hle hi.f.hcap
  have hlc := Nat.le_trans hi.c.hle hi.c.hcap
  have hli := Nat.le_trans hx.hle hx.hcap
  have hgr := fun s W => great_any mem stk inp Ad ld cd Af lf cf Ac lc cc Ai li ci s W hld hlf hlc hli
  have haw : ∀ W, Below w.heap.size w W → Calls Tryd.prog 10 #[] W fun e w' => e = .returned (.bool true) ∧ Below W.heap.size W w' := fun W hW => mc_awake W (ho.below hW hp)
  have hrc : ∀ s W, Below w.heap.size w W → Calls Tryd.prog 14 #[.agg #[.int .i64 mem, .int .i64 stk, .int .i64 inp, .slice Ad ld cd, .slice Af lf cf, .slice Ac lc cc], .slice Ai li ci, .int .i64 t, .int .i64 s] W fun e w' => e = .returned (.tuple #[.int .i64 (Mc.reachN P xs t s), .bool (Mc.reachB P xs t s)]) ∧ Below W.heap.size W w' := fun s W hW => reach_any' ⟨mem, stk, inp, Ad, ld, cd, Af, lf, cf, Ac, lc, cc, Ai, li, ci, P, xs⟩ t s W (ho.below hW hp) (HA.below hW)
  have hrn : ∀ W, Below w.heap.size w W → Calls Tryd.prog 12 #[.agg #[.int .i64 mem, .int .i64 stk, .int .i64 inp, .slice Ad ld cd, .slice Af lf cf, .slice Ac lc cc], .slice Ai li ci, .int .i64 steps] W (RunA (Mc.answer P xs steps) W) := fun W hW => run_any ⟨mem, stk, inp, Ad, ld, cd, Af, lf, cf, Ac, lc, cc, Ai, li, ci, P, xs⟩ steps W (ho.below hW hp) (HA.below hW)
  have hlen := Mc.answer_len P xs steps
  have hpre := fun h => Mc.answer_pre P xs (a := steps) (b := more) h
  have hfs : ∀ (A : Option Addr) (cap : Nat) (W : World), InSl W A (Mc.answer P xs steps).1.length cap (Mc.answer P xs steps).1 → Calls Tryd.prog 25 #[.slice A (Mc.answer P xs steps).1.length cap, .int .i64 t] W fun e w' => e = .returned (.int .i64 (Mc.first (Mc.answer P xs steps).1 t)) ∧ Below W.heap.size W w' := fun A cap W h => first_any A _ cap _ t W h
  have hfg := Mc.first_ge (Mc.answer P xs steps).1 t
  have hN1 : Mc.reachN P xs t steps = max (Mc.first (Mc.answer P xs steps).1 t) 0 := rfl
  have hB1 : Mc.reachB P xs t steps = decide (0 ≤ Mc.first (Mc.answer P xs steps).1 t) := rfl
  have hN2 : steps ≤ more → 0 ≤ Mc.first (Mc.answer P xs steps).1 t → Mc.reachN P xs t more = Mc.first (Mc.answer P xs steps).1 t ∧ Mc.reachB P xs t more = true := fun h1 h2 => by
    obtain ⟨l, hl⟩ := hpre h1
    unfold Mc.reachN Mc.reachB
    rw [hl, Mc.first_pre h2]
    exact ⟨by omega, decide_eq_true h2⟩
  have hr1 := hrc steps
  have hr2 := hrc more
  clear hrc
  generalize Mc.first (Mc.answer P xs steps).1 t = f at *
  generalize Mc.reachN P xs t more = n2 at *
  generalize Mc.reachB P xs t more = b2 at *
  rw [hN1, hB1] at hr1
  obtain ⟨T, hT⟩ : ∃ T, T = max steps 0 := ⟨_, rfl⟩
  have hmx : ∀ ts t W, (Builtin.max_ ts t #[.int .i64 steps, .int .i64 0]).run Tryd.prog W = .ok (.int .i64 T) W := fun ts t W => by
    have : T = if steps < 0 then 0 else steps := by rw [hT]; split <;> omega
    rw [this]
    simp [Builtin.max_, Builtin.max2]
  have hfT : f ≤ T := by omega
  generalize Mc.answer P xs steps = r at *
  obtain ⟨path, en, rg, mm, er⟩ := r
  simp only at hfs hlen hfg
  have hq := hgr steps
  generalize greatB ld lf lc li steps = q at *
  have HGR := Lib.hid hq
  have HAW := Lib.hid haw
  have HR1 := Lib.hid hr1
  have HR2 := Lib.hid hr2
  have HRN := Lib.hid hrn
  have HFS := Lib.hid hfs
  have HN2 := Lib.hid hN2
  have HMX := Lib.hid hmx
  have HFT := Lib.hid (And.intro hfT (And.intro hfg.1 hT))
  clear hq haw hr1 hr2 hrn hfs hN2 hmx hfT hgr hN1 hB1 hlen hpre hfg hT hi hx HA e0 e1 e2 ho
  go_enter Tryd.func6, Tryd.ntmps6
  go_wp2_with fail
  have hB0 := Below.box w (.cells #[.int .i64 mem, .int .i64 stk, .int .i64 inp, .slice Ad ld cd, .slice Af lf cf, .slice Ac lc cc] 26)
  have hX0 : (w.alloc (.cells #[.int .i64 mem, .int .i64 stk, .int .i64 inp, .slice Ad ld cd, .slice Af lf cf, .slice Ac lc cc] 26)).heap[w.heap.size]? = some (.cells #[.int .i64 mem, .int .i64 stk, .int .i64 inp, .slice Ad ld cd, .slice Af lf cf, .slice Ac lc cc] 26 (0, 0)) := heap_newM rfl
  have hz0 : w.heap.size < (w.alloc (.cells #[.int .i64 mem, .int .i64 stk, .int .i64 inp, .slice Ad ld cd, .slice Af lf cf, .slice Ac lc cc] 26)).heap.size := by simp
  generalize w.alloc (.cells #[.int .i64 mem, .int .i64 stk, .int .i64 inp, .slice Ad ld cd, .slice Af lf cf, .slice Ac lc cc] 26) = w0 at *
  refine (HAW.out _ hB0).mono ?_
  rintro e v ⟨rfl, hb⟩
  have HX1 := Lib.hid ((hb.block _ hz0).trans hX0)
  have HB1 := Lib.hid (hB0.trans (hb.mono hB0.size))
  have HZ1 := Lib.hid (Nat.lt_of_lt_of_le hz0 hb.size)
  clear hB0 hX0 hz0 hb
  have q0 := row_cell HX1.out 0
  have q1 := row_cell HX1.out 1
  have q2 := row_cell HX1.out 2
  have q3 := row_cell HX1.out 3
  have q4 := row_cell HX1.out 4
  have q5 := row_cell HX1.out 5
  simp at q0 q1 q2 q3 q4 q5
  go_wp2_with fail
  refine (HGR.out _).mono ?_
  rintro e v2 ⟨rfl, hb⟩
  have HX2 := Lib.hid ((hb.block _ HZ1.out).trans HX1.out)
  have HB2 := Lib.hid (HB1.out.trans (hb.mono HB1.out.size))
  have HZ2 := Lib.hid (Nat.lt_of_lt_of_le HZ1.out hb.size)
  clear hb
  clear q0 q1 q2 q3 q4 q5
  have q0 := row_cell HX2.out 0
  have q1 := row_cell HX2.out 1
  have q2 := row_cell HX2.out 2
  have q3 := row_cell HX2.out 3
  have q4 := row_cell HX2.out 4
  have q5 := row_cell HX2.out 5
  simp at q0 q1 q2 q3 q4 q5
  by_cases hq : q = true
  · subst hq
    go_wp2
    go_ret
    exact ⟨rfl, HB2.out⟩
  have hq : q = false := by simpa using hq
  subst hq
  by_cases hm : 300 < more
  · go_wp2
    go_ret
    exact ⟨rfl, HB2.out⟩
  go_wp2_with fail
  refine (HR1.out _ HB2.out).mono ?_
  rintro e v3 ⟨rfl, hb⟩
  have HX3 := Lib.hid ((hb.block _ HZ2.out).trans HX2.out)
  have HB3 := Lib.hid (HB2.out.trans (hb.mono HB2.out.size))
  have HZ3 := Lib.hid (Nat.lt_of_lt_of_le HZ2.out hb.size)
  clear hb
  clear q0 q1 q2 q3 q4 q5
  have q0 := row_cell HX3.out 0
  have q1 := row_cell HX3.out 1
  have q2 := row_cell HX3.out 2
  have q3 := row_cell HX3.out 3
  have q4 := row_cell HX3.out 4
  have q5 := row_cell HX3.out 5
  simp at q0 q1 q2 q3 q4 q5
  go_wp2_with fail
  refine (HRN.out _ HB3.out).mono ?_
  rintro e v4 ⟨pA, pcap, mA, mcap, rfl, hin, hby, hb⟩
  have HX4 := Lib.hid ((hb.block _ HZ3.out).trans HX3.out)
  have HB4 := Lib.hid (HB3.out.trans (hb.mono HB3.out.size))
  have HZ4 := Lib.hid (Nat.lt_of_lt_of_le HZ3.out hb.size)
  simp only [trC] at hin ⊢
  have HIN := Lib.hid hin
  have HF1 := Lib.hid (HFS.out pA pcap)
  clear hb hin hby
  clear q0 q1 q2 q3 q4 q5
  generalize path.length = pn at *
  generalize rg.getD 0 0 = r0 at *
  generalize rg.getD 1 0 = r1 at *
  generalize rg.getD 2 0 = r2 at *
  generalize rg.getD 3 0 = r3 at *
  generalize rg.getD 4 0 = r4 at *
  generalize rg.getD 5 0 = r5 at *
  generalize rg.getD 6 0 = r6 at *
  generalize rg.getD 7 0 = r7 at *
  generalize mm.length = mn at *
  by_cases hf : 0 ≤ f
  · have hd : decide (0 ≤ f) = true := decide_eq_true hf
    have hmf : max f 0 = f := by omega
    rw [hd, hmf]
    clear hd hmf
    have q0 := row_cell HX4.out 0
    have q1 := row_cell HX4.out 1
    have q2 := row_cell HX4.out 2
    have q3 := row_cell HX4.out 3
    have q4 := row_cell HX4.out 4
    have q5 := row_cell HX4.out 5
    simp at q0 q1 q2 q3 q4 q5
    have hne : w.heap.size ≠ v4.heap.size := by have := HZ4.out; omega
    have hvs := HZ4.out
    go_wp2_with fail
    refine (HR2.out _ (HB4.out.trans ((Below.box _ _).mono HB4.out.size))).mono ?_
    rintro e v5 ⟨rfl, hb⟩
    have HB5 := Lib.hid hb
    have t0 := cells_below hb (row_cell (heap_newM rfl) 0) (by simp)
    simp at t0
    clear hb q0 q1 q2 q3 q4 q5
    have hmx := HMX.out
    have hfT := HFT.out.1
    by_cases hms : more < steps
    · go_wp2_with (go_at_call 25; refine (HF1.out _ ?hw).mono ?_; rotate_left; rintro e v6 ⟨rfl, hb⟩; have HB6 := Lib.hid hb; clear hb)
      case hw => exact (HIN.out.below (Below.box _ _)).below HB5.out
      go_ret
      exact ⟨rfl, HB4.out.trans (((Below.box _ _).trans ((HB5.out.trans (HB6.out.mono HB5.out.size)).mono (by simp))).mono HB4.out.size)⟩
    · obtain ⟨h2, h3⟩ := HN2.out (by omega) hf
      subst h2 h3
      go_wp2_with (go_at_call 25; refine (HF1.out _ ?hw).mono ?_; rotate_left; rintro e v6 ⟨rfl, hb⟩; have HB6 := Lib.hid hb; clear hb)
      case hw => exact (HIN.out.below (Below.box _ _)).below HB5.out
      go_ret
      exact ⟨rfl, HB4.out.trans (((Below.box _ _).trans ((HB5.out.trans (HB6.out.mono HB5.out.size)).mono (by simp))).mono HB4.out.size)⟩
  · have hd : decide (0 ≤ f) = false := decide_eq_false hf
    have hmf : max f 0 = 0 := by omega
    have hflt : f < 0 := by omega
    rw [hd, hmf]
    clear hd hmf
    go_wp2_with (go_at_call 25; refine (HF1.out _ ?hw).mono ?_; rotate_left; rintro e v5 ⟨rfl, hb⟩; have HB5 := Lib.hid hb; clear hb)
    case hw => exact HIN.out.below (Below.box _ _)
    go_ret
    exact ⟨rfl, HB4.out.trans (((Below.box _ _).trans (HB5.out.mono (by simp))).mono HB4.out.size)⟩
end Go.Proofs.YtfhnigfghfmolaaDoor
namespace Go.Proofs.YtfhnigfghfmolaaDoor
set_option maxRecDepth 100000
open Go.RowKit

namespace Mc
/-- The state behind so many steps. -/
def stN (p : Im.Pic) (xs : List Int) : Nat → St → St
  | 0, s => s
  | n + 1, s => stN p xs n (step p xs s).1
theorem stN_succ {p : Im.Pic} {xs : List Int} : ∀ (n : Nat) (s : St), stN p xs (n + 1) s = (step p xs (stN p xs n s)).1
  | 0, _ => rfl
  | n + 1, s => by
    rw [stN, stN_succ n]
    rfl
/-- The places behind the first so many steps. -/
def plN (p : Im.Pic) (xs : List Int) : Nat → St → List Int
  | 0, _ => []
  | n + 1, s => (step p xs s).1.pl :: plN p xs n (step p xs s).1
theorem plN_len {p : Im.Pic} {xs : List Int} : ∀ (n : Nat) (s : St), (plN p xs n s).length = n
  | 0, _ => rfl
  | n + 1, s => by simp [plN, plN_len n]
theorem plN_get {p : Im.Pic} {xs : List Int} : ∀ (n : Nat) (s : St) (k : Nat), k < n → (plN p xs n s).getD k 0 = (stN p xs (k + 1) s).pl
  | 0, _, _, h => absurd h (by omega)
  | n + 1, s, 0, _ => rfl
  | n + 1, s, k + 1, h => by
    rw [plN, List.getD_cons_succ, plN_get n _ k (by omega)]
    rfl
/-- The first steps of a run that don't end it. -/
theorem go_of {p : Im.Pic} {xs : List Int} : ∀ (m d : Nat) (s : St) (path : List Int), (∀ j, j < m → (step p xs (stN p xs j s)).2 = 0) → go p xs (m + d) s path = go p xs d (stN p xs m s) (path ++ plN p xs m s)
  | 0, d, s, path, _ => by rw [Nat.zero_add]; simp [stN, plN]
  | m + 1, d, s, path, h => by
    rw [show m + 1 + d = (m + d) + 1 by omega, go, if_pos (show (step p xs s).2 = 0 from h 0 (by omega)), go_of m d _ _ fun j hj => h (j + 1) (by omega)]
    simp [stN, plN]
theorem go_shape {p : Im.Pic} {xs : List Int} : ∀ (n : Nat) (s : St) (path : List Int), ∃ m, m ≤ n ∧ (∀ j, j < m → (step p xs (stN p xs j s)).2 = 0) ∧ (go p xs n s path).1 = path ++ plN p xs m s ∧ (go p xs n s path).2.1 = stN p xs m s ∧
    (((go p xs n s path).2.2 = 0 ∧ m = n) ∨ ((go p xs n s path).2.2 ≠ 0 ∧ m < n ∧ (go p xs n s path).2.2 = (step p xs (stN p xs m s)).2)) := by
  intro n
  induction n with
  | zero => intro s path; exact ⟨0, Nat.le_refl _, fun j hj => absurd hj (by omega), by simp [go, plN], rfl, .inl ⟨rfl, rfl⟩⟩
  | succ n ih =>
    intro s path
    by_cases h0 : (step p xs s).2 = 0
    · obtain ⟨m, h1, h2, h3, h4, h5⟩ := ih (step p xs s).1 (path ++ [(step p xs s).1.pl])
      rw [go, if_pos h0]
      refine ⟨m + 1, by omega, fun j hj => ?_, by rw [h3]; simp [plN], h4, ?_⟩
      · match j, hj with
        | 0, _ => exact h0
        | j + 1, hj => exact h2 j (by omega)
      · rcases h5 with ⟨a, b⟩ | ⟨a, b, c⟩
        · exact .inl ⟨a, by omega⟩
        · exact .inr ⟨a, by omega, c⟩
    · rw [go, if_neg h0]
      exact ⟨0, by omega, fun j hj => absurd hj (by omega), by simp [plN], rfl, .inr ⟨h0, by omega, rfl⟩⟩
theorem stN_ok {p : Im.Pic} {xs : List Int} (hR : R p) (hW : Wc p) (hx : Cd.isB xs) (hl : xs.length < 1000) : ∀ (n : Nat) (s : St), Ok p s → Ok p (stN p xs n s)
  | 0, _, h => h
  | n + 1, s, h => stN_ok hR hW hx hl n _ (h.step hR hW hx hl)
/-- All that the law asks of a run. -/
theorem goes_all {p : Im.Pic} {xs : List Int} {steps : Int} (hW : Wc p) (hx : Cd.isB xs) (hd : Cd.isB p.ds) (he : (answer p xs steps).2.2.2.2 = 0) (hs : steps ≤ 300) :
    R p ∧ (xs.length : Int) ≤ p.inp ∧ ∃ m : Nat, (∀ j, Ok p (stN p xs j (start p))) ∧ (∀ j, j < m → (step p xs (stN p xs j (start p))).2 = 0) ∧ (answer p xs steps).1.length = m + 1 ∧ (∀ k, k ≤ m → (answer p xs steps).1.getD k 0 = (stN p xs k (start p)).pl) ∧
      (answer p xs steps).2.2.1 = (stN p xs m (start p)).rg ∧ (answer p xs steps).2.2.2.1 = (stN p xs m (start p)).mm ∧ (m : Int) ≤ max steps 0 ∧
      (((answer p xs steps).2.1 = 0 ∧ (m : Int) = max steps 0) ∨ ((answer p xs steps).2.1 ≠ 0 ∧ (answer p xs steps).2.1 = (step p xs (stN p xs m (start p))).2 ∧ answer p xs 300 = answer p xs steps)) ∧
      (answer p xs m).2.1 = 0 ∧ (answer p xs m).1 = (answer p xs steps).1 := by
  have hc : Im.chk p = 0 := by
    unfold answer at he
    split at he
    · exact he
    · rename_i h0; simpa using h0
  have hR : R p := hc
  have hl : ¬ p.inp < xs.length := by
    intro h
    unfold answer at he
    rw [if_neg (by simpa using hc), if_pos h] at he
    exact absurd he (by decide)
  have ea : ∀ t, answer p xs t = ((run p xs t).1, (run p xs t).2.2, (run p xs t).2.1.rg, (run p xs t).2.1.mm, 0) := fun t => by
    unfold answer; rw [if_neg (by simpa using hc), if_neg hl]
  have h16 := hR.cnt.2.2.1
  have hok := mem0_ok hR hd
  refine ⟨hR, by omega, ?_⟩
  obtain ⟨m, h1, h2, h3, h4, h5⟩ := go_shape (p := p) (xs := xs) (most steps) (start p) [0]
  have hmost : ((most steps : Nat) : Int) = max steps 0 := by unfold most; omega
  have hm3 : m ≤ 300 := by omega
  have hmm : most (m : Int) = m := by unfold most; omega
  have h300 : most 300 = 300 := by decide
  have e1 : run p xs steps = go p xs (most steps) (start p) [0] := rfl
  refine ⟨m, fun j => stN_ok hR hW hx (by omega) j _ hok, h2, ?_, fun k hk => ?_, ?_, ?_, by omega, ?_, ?_, ?_⟩
  · rw [ea, e1]
    show (go p xs (most steps) (start p) [0]).1.length = _
    rw [h3]; simp [plN_len]
  · rw [ea, e1]
    show (go p xs (most steps) (start p) [0]).1.getD k 0 = _
    rw [h3]
    match k, hk with
    | 0, _ => rfl
    | k + 1, hk =>
      show (([0] ++ plN p xs m (start p)) : List Int).getD (k + 1) 0 = _
      rw [List.singleton_append, List.getD_cons_succ, plN_get _ _ _ (by omega)]
  · rw [ea, e1]; show (go p xs (most steps) (start p) [0]).2.1.rg = _; rw [h4]
  · rw [ea, e1]; show (go p xs (most steps) (start p) [0]).2.1.mm = _; rw [h4]
  · rw [ea steps, e1]
    rcases h5 with ⟨a, b⟩ | ⟨a, b, c⟩
    · exact .inl ⟨a, by omega⟩
    · refine .inr ⟨a, c, ?_⟩
      rw [ea 300]
      have e3 : run p xs 300 = go p xs (most steps) (start p) [0] := by
        show go p xs (most 300) (start p) [0] = _
        obtain ⟨d, hd⟩ : ∃ d, 300 = m + (d + 1) := ⟨299 - m, by omega⟩
        obtain ⟨f, hf⟩ : ∃ f, most steps = m + (f + 1) := ⟨most steps - m - 1, by omega⟩
        have hne : (step p xs (stN p xs m (start p))).2 ≠ 0 := by rw [← c]; exact a
        rw [h300, hd, hf, go_of m _ _ _ h2, go_of m _ _ _ h2, go_stop hne, go_stop hne]
      rw [e3]
  · rw [ea m]
    show (go p xs (most m) (start p) [0]).2.2 = 0
    rw [hmm, ← Nat.add_zero m, go_of m 0 _ _ h2]
    rfl
  · rw [ea m, ea steps, e1]
    show (go p xs (most m) (start p) [0]).1 = (go p xs (most steps) (start p) [0]).1
    rw [hmm, h3]
    conv => lhs; rw [← Nat.add_zero m, go_of m 0 _ _ h2]
    rfl
theorem answer_nil {p : Im.Pic} {xs : List Int} {steps : Int} (he : (answer p xs steps).2.2.2.2 ≠ 0) : (answer p xs steps).1 = [] := by
  unfold answer at *
  split
  · rfl
  · rename_i h0
    rw [if_neg h0] at he
    split
    · rfl
    · rename_i h1
      rw [if_neg h1] at he
      exact absurd rfl he
theorem rg8 : ∀ (l : List Int), l.length = 8 → l = [l.getD 0 0, l.getD 1 0, l.getD 2 0, l.getD 3 0, l.getD 4 0, l.getD 5 0, l.getD 6 0, l.getD 7 0]
  | [_, _, _, _, _, _, _, _], _ => rfl
end Mc

/-- Step, of any state's value. -/
theorem Step_st (H : Hd) (s : Mc.St) (mA : Option Addr) (mn mcap : Nat) (oA : Option Addr) (on ocap : Nat) (w : World) (ho : Ops w) (HA : HdAt w H) (hR : Mc.R H.p) (hok : Mc.Ok H.p s) (hm : BySl w mA mn mcap s.mm) (hp : InSl w oA on ocap s.op) :
    Calls Tryd.prog 19 #[.agg #[.int .i64 H.mem, .int .i64 H.stk, .int .i64 H.inp, .slice H.Ad H.ld H.cd, .slice H.Af H.lf H.cf, .slice H.Ac H.lc H.cc], .slice H.Ai H.li H.ci, .agg (stC s (.slice mA mn mcap) (.slice oA on ocap))] w fun e w' => ∃ mA' mcap' oA' ocap',
      e = .returned (.tuple #[.agg (stC (Mc.step H.p H.xs s).1 (.slice mA' (Mc.step H.p H.xs s).1.mm.length mcap') (.slice oA' (Mc.step H.p H.xs s).1.op.length ocap')), .int .i64 (Mc.step H.p H.xs s).2]) ∧
        (w'.ownsRow w.heap.size 5 1 (.slice mA' (Mc.step H.p H.xs s).1.mm.length mcap') (Mc.step H.p H.xs s).1.mm.length ((Mc.step H.p H.xs s).1.mm.map (Value.int .u8)) ∧ Cd.isB (Mc.step H.p H.xs s).1.mm) ∧ w'.ownsRow w.heap.size 3 1 (.slice oA' (Mc.step H.p H.xs s).1.op.length ocap') (Mc.step H.p H.xs s).1.op.length ((Mc.step H.p H.xs s).1.op.map (Value.int .i64)) ∧ Below w.heap.size w w' := by
  obtain ⟨pl, rg, mm, op⟩ := s
  have h8 := Mc.rg8 rg hok.rl
  have h1 := hok.one hR
  have hml : mn ≤ 1000 := by
    have := hm.hlen
    have := hok.ml
    have := hR.cnt.1.2
    simp only at *
    omega
  have key := Step_any H pl (rg.getD 0 0) (rg.getD 1 0) (rg.getD 2 0) (rg.getD 3 0) (rg.getD 4 0) (rg.getD 5 0) (rg.getD 6 0) (rg.getD 7 0) mA mn mcap oA on ocap mm op w ho HA hR (by rw [← h8]; exact h1) hml hm hp
  rw [← h8] at key
  exact key
end Go.Proofs.YtfhnigfghfmolaaDoor
