/-
  The contract of Run, of an image that is right and an input that isn't too long.
  Run as one contract; First, slices.Index, Reach; Few, great, the laws' own example.
  Reach; great; the laws' own example.
  great, and the laws' own example.
  An image that comes in: its fields, and what its slices hold.
-/
import Derived.Test.YtfhnigfghfmolaaDoorGF
import Derived.Deep.Slices
set_option linter.unusedSimpArgs false
set_option linter.unusedVariables false
namespace Go.Proofs.YtfhnigfghfmolaaDoor
set_option maxRecDepth 100000
open Go.RowKit

namespace Mc
theorem go_next {p : Im.Pic} {xs : List Int} {n : Nat} {s : St} {path : List Int} (h : (step p xs s).2 = 0) : go p xs (n + 1) s path = go p xs n (step p xs s).1 (path ++ [(step p xs s).1.pl]) := by
  rw [go, if_pos h]
theorem go_stop {p : Im.Pic} {xs : List Int} {n : Nat} {s : St} {path : List Int} (h : (step p xs s).2 ≠ 0) : go p xs (n + 1) s path = (path, s, (step p xs s).2) := by
  rw [go, if_neg h]
theorem step_stay {p : Im.Pic} {xs : List Int} {s : St} (h : (step p xs s).2 ≠ 0) : (step p xs s).1 = s := by
  unfold step at *
  split
  · rename_i h0; exact absurd (by rw [if_pos h0]) h
  · rfl
end Mc

/-- A run under way: the runner, the path, and what is left of it. -/
structure Rg (H : Hd) (w0 : World) (g : Nat) (M : Value) (N q : Nat) (R : List Int × Mc.St × Int) (PV : Value) (wr : World) : Prop where
  hq : q ≤ N
  ex : ∃ s nx O path, Rn H w0 g M O s nx wr ∧ Mc.Ok H.p s ∧ Mc.go H.p H.xs (N - q) s path = R ∧ wr.ownsRow w0.heap.size 3 1 PV (q + 1) (path.map (Value.int .i64)) ∧ path.length = q + 1 ∧
    PV.ownBlock ≠ some g ∧ (∀ k, PV.ownBlock = some k → M.ownBlock ≠ some k ∧ O.ownBlock ≠ some k)

theorem Rn.grown {H : Hd} {w0 : World} {g : Nat} {M O : Value} {s : Mc.St} {nx : Int} {w w' : World} {row : Option Nat} (h : Rn H w0 g M O s nx w) (hg : w.grownBy w' row) (hb : ∀ k, row = some k → w0.heap.size ≤ k) (h1 : row ≠ some g) (h2 : ∀ k, row = some k → M.ownBlock ≠ some k ∧ O.ownBlock ≠ some k) : Rn H w0 g M O s nx w' := by
  obtain ⟨cs, r1, r2⟩ := h.row
  exact ⟨h.bel.grown hg h.bel.size hb, ⟨cs, r1.grown hg h1, r2⟩, ownsRow.blk h.mo fun k hk => hg.block k (h.mo.lt k hk).2 (fun e => (h2 k e.symm).1 hk), ownsRow.blk h.oo fun k hk => hg.block k (h.oo.lt k hk).2 (fun e => (h2 k e.symm).2 hk), h.gb, h.mg, h.og, h.ne⟩
/-- append of a slice onto a row of the call's own: what else stays. -/
theorem wpList_apM {P : Program} {w : World} {ops : Array Oper} {rest : List Oper} {o : Oper} {a : Act} {Q : Exit → Act → World → Prop} (hgd : o.guard = none) (s x : Operand) (t : TypeId)
    (ho : o.op = .call { callee := .builtin .append, args := #[s, x], argTypes := #[t, t] })
    (base : Nat) (e : TypeId) (i : TypeInfo) (z : Value) (bytes : Nat) (ht : P.underlying t = some (.slice e)) (hi : P.info? e = some i) (hz : i.zero = some z)
    (hsize : i.size = 1) (hby : i.bytes = bytes) (hzs : z.cells.size = 1)
    (v : Value) (n : Nat) (xs : List Value) (hs : a.eval s = v) (hown : w.ownsRow base e 1 v n xs)
    (ad : Addr) (m c : Nat) (news : List Value) (hx : a.eval x = .slice (some ad) m c) (hr : Sl w (some ad) m news) (h1 : ∀ u ∈ news, u.oneCell' = true)
    (h63 : n + m ≤ maxLen) (hbytes : (n + m) * bytes ≤ 140737488355328) (hbase : base ≤ w.heap.size)
    (h : ∀ v' w', w'.ownsRow base e 1 v' (n + m) (xs ++ news) → w.grownBy w' v.ownBlock → (v'.ownBlock = v.ownBlock ∨ v'.ownBlock = some w.heap.size) → wpList P ops Q rest (a.put o.dst v') w') : wpList P ops Q (o :: rest) a w := by
  have hcells : ∀ j u, news[j]? = some u → w.cell? (ad.add j) = some u := fun j u hu => by
    rcases Nat.eq_zero_or_pos m with h0 | h0
    · have hn : news = [] := List.eq_nil_of_length_eq_zero (hr.1.trans h0)
      subst hn
      simp at hu
    · obtain ⟨b, o', he, _, hc⟩ := hr.2 h0
      injection he with he
      subst he
      exact hc j u hu
  obtain ⟨v', w', hrun, h2, h3, _, h5⟩ := run_append_own_at (P := P) w base t o.type e i z 1 bytes ht hi hz hsize hby hzs (by omega) v n xs hown ad m c news (by rw [hr.1]; omega) hcells h1 h63 hbytes hbase
  refine wpList_plain hgd fun K hK => ?_
  unfold Oper.wp execOp
  simp only [ho, resolve, invoke, builtin, Sem.run_bind, Sem.run_pure, Result.andThen_ok, List.map_toArray, List.map_cons, List.map_nil, hs, hx, hrun]
  exact hK _ _ (h v' w' h2 h3 h5)

set_option maxRecDepth 20000 in
set_option maxHeartbeats 12800000 in
theorem run_right (H : Hd) (steps : Int) (w : World) (ho : Ops w) (HA : HdAt w H) (hc : Mc.R H.p) (hl : (H.xs.length : Int) ≤ H.p.inp) :
    Calls Tryd.prog 12 #[.agg #[.int .i64 H.mem, .int .i64 H.stk, .int .i64 H.inp, .slice H.Ad H.ld H.cd, .slice H.Af H.lf H.cf, .slice H.Ac H.lc H.cc], .slice H.Ai H.li H.ci, .int .i64 steps] w (RunP (Mc.answer H.p H.xs steps) w) := by
  have hCn := hc.cnt
  have ea : Mc.answer H.p H.xs steps = ((Mc.run H.p H.xs steps).1, (Mc.run H.p H.xs steps).2.2, (Mc.run H.p H.xs steps).2.1.rg, (Mc.run H.p H.xs steps).2.1.mm, 0) := by unfold Mc.answer; rw [if_neg (show ¬ Im.chk H.p ≠ 0 from fun h => h hc), if_neg (by omega)]
  rw [ea]
  have hp := ho.pos
  have hW : Mc.Wc H.p := HA.img.c.rng
  have hen : ∀ W, Below w.heap.size w W → Calls Tryd.prog 28 #[.agg #[.int .i64 H.mem, .int .i64 H.stk, .int .i64 H.inp, .slice H.Ad H.ld H.cd, .slice H.Af H.lf H.cf, .slice H.Ac H.lc H.cc]] W fun e w' => ∃ A n cap, e = .returned (.tuple #[.slice A n cap, .int .i64 0]) ∧ BySl w' A n cap (Im.out H.p) ∧ Below W.heap.size W w' := fun W hW => by
    have := encode_any _ _ _ _ _ _ _ _ _ _ _ _ H.p W (ho.below hW hp) (HA.img.below hW) HA.e0 HA.e1 HA.e2
    rwa [show Im.chk H.p = 0 from hc] at this
  have hlen := HA.inp.hlen
  have hin : (H.li : Int) ≤ H.inp := by rw [← HA.e2, ← hlen]; exact hl
  have hlm := Nat.le_trans HA.inp.hle HA.inp.hcap
  have hok0 := Mc.mem0_ok hc HA.img.d.isB
  have hxs := HA.inp.isB
  have hxl : H.xs.length < 1000 := by have := hCn.2.2.1; omega
  have hm0 : 0 ≤ H.mem ∧ H.mem ≤ 64 ∧ (H.ld : Int) ≤ H.mem := by have := hCn.1; have := hCn.2.2.2.1; have := HA.e0; have := HA.img.d.hlen; omega
  have hN : ((Mc.most steps : Nat) : Int) = max (min steps 4096) 0 := by unfold Mc.most; omega
  obtain ⟨T, hT⟩ : ∃ T, T = min steps 4096 := ⟨_, rfl⟩
  have hmin : ∀ ts t W, (Builtin.min_ ts t #[.int .i64 steps, .int .i64 4096]).run Tryd.prog W = .ok (.int .i64 T) W := fun ts t W => by
    have : T = if 4096 < steps then 4096 else steps := by rw [hT]; split <;> omega
    rw [this]
    simp [Builtin.min_, Builtin.min2]
  rw [← hT] at hN
  have hTT : T ≤ 4096 := by omega
  have HTT := Lib.hid hTT
  clear hT hTT
  have hRun : Mc.run H.p H.xs steps = Mc.go H.p H.xs (Mc.most steps) (Mc.start H.p) [0] := rfl
  generalize Mc.run H.p H.xs steps = R at *
  generalize Mc.most steps = N at *
  unfold maxLen at hlm
  have HEN := Lib.hid hen
  have HHA := Lib.hid HA
  have HC := Lib.hid hc
  have HRUN := Lib.hid hRun
  have HOK0 := Lib.hid hok0
  have HXS := Lib.hid (And.intro hxs hxl)
  have HM0 := Lib.hid hm0
  have HWC := Lib.hid hW
  have HN := Lib.hid hN
  clear hen ho HA hc ea hl hlen hRun hok0 hxs hxl hm0 hW hCn hN
  go_enter Tryd.func12, Tryd.ntmps12
  go_wp2_with fail
  have hB : Below w.heap.size w ((w.alloc (.cells #[.int .i64 H.mem, .int .i64 H.stk, .int .i64 H.inp, .slice H.Ad H.ld H.cd, .slice H.Af H.lf H.cf, .slice H.Ac H.lc H.cc] 26)).alloc (.cells #[.slice none 0 0, .int .i64 0, .int .u64 0, .int .u64 0, .int .u64 0, .int .u64 0, .int .u64 0, .int .u64 0, .int .u64 0, .int .u64 0, .slice none 0 0] 32)) := ((Below.refl _ _).alloc (Nat.le_refl _) _).alloc (by simp) _
  have h1 : ((w.alloc (.cells #[.int .i64 H.mem, .int .i64 H.stk, .int .i64 H.inp, .slice H.Ad H.ld H.cd, .slice H.Af H.lf H.cf, .slice H.Ac H.lc H.cc] 26)).alloc (.cells #[.slice none 0 0, .int .i64 0, .int .u64 0, .int .u64 0, .int .u64 0, .int .u64 0, .int .u64 0, .int .u64 0, .int .u64 0, .int .u64 0, .slice none 0 0] 32)).heap[w.heap.size]? = some (.cells #[.int .i64 H.mem, .int .i64 H.stk, .int .i64 H.inp, .slice H.Ad H.ld H.cd, .slice H.Af H.lf H.cf, .slice H.Ac H.lc H.cc] 26 (0, 0)) := ((Below.box _ _).block _ (by simp)).trans (heap_newM rfl)
  have h2 : ((w.alloc (.cells #[.int .i64 H.mem, .int .i64 H.stk, .int .i64 H.inp, .slice H.Ad H.ld H.cd, .slice H.Af H.lf H.cf, .slice H.Ac H.lc H.cc] 26)).alloc (.cells #[.slice none 0 0, .int .i64 0, .int .u64 0, .int .u64 0, .int .u64 0, .int .u64 0, .int .u64 0, .int .u64 0, .int .u64 0, .int .u64 0, .slice none 0 0] 32)).heap[w.heap.size + 1]? = some (.cells #[.slice none 0 0, .int .i64 0, .int .u64 0, .int .u64 0, .int .u64 0, .int .u64 0, .int .u64 0, .int .u64 0, .int .u64 0, .int .u64 0, .slice none 0 0] 32 (0, 0)) := heap_newM (by simp)
  have hz : ((w.alloc (.cells #[.int .i64 H.mem, .int .i64 H.stk, .int .i64 H.inp, .slice H.Ad H.ld H.cd, .slice H.Af H.lf H.cf, .slice H.Ac H.lc H.cc] 26)).alloc (.cells #[.slice none 0 0, .int .i64 0, .int .u64 0, .int .u64 0, .int .u64 0, .int .u64 0, .int .u64 0, .int .u64 0, .int .u64 0, .int .u64 0, .slice none 0 0] 32)).heap.size = w.heap.size + 2 := by simp
  generalize (w.alloc (.cells #[.int .i64 H.mem, .int .i64 H.stk, .int .i64 H.inp, .slice H.Ad H.ld H.cd, .slice H.Af H.lf H.cf, .slice H.Ac H.lc H.cc] 26)).alloc (.cells #[.slice none 0 0, .int .i64 0, .int .u64 0, .int .u64 0, .int .u64 0, .int .u64 0, .int .u64 0, .int .u64 0, .int .u64 0, .int .u64 0, .slice none 0 0] 32) = w1 at *
  refine (HEN.out _ hB).mono ?_
  rintro e v ⟨A, n, cap, rfl, hby, hbv⟩
  have hB2 := hB.trans (hbv.mono hB.size)
  have hv1 := (hbv.block _ (by omega)).trans h1
  have hv2 := (hbv.block _ (by omega)).trans h2
  have hvz : w.heap.size + 2 ≤ v.heap.size := by have := hbv.size; omega
  have HB2 := Lib.hid hB2
  have HV1 := Lib.hid hv1
  have HV2 := Lib.hid hv2
  have HVZ := Lib.hid hvz
  clear hB h1 h2 hz hby hbv hB2 hv1 hv2 hvz
  have q2 := row_cell HV1.out 2
  simp at q2
  go_wp2_with fail
  have hHA : HdAt v H := HHA.out.below HB2.out
  have HHV := Lib.hid hHA
  clear hHA q2
  refine wp_region_held_drew (S := fun W => Below v.heap.size v W) (by kernel_rfl) (Below.refl _ _).drew (fun hHeld => ?_)
  refine wpAnyH_take (i := 0) (v := .agg #[.int .i64 H.mem, .int .i64 H.stk, .int .i64 H.inp, .slice H.Ad H.ld H.cd, .slice H.Af H.lf H.cf, .slice H.Ac H.lc H.cc]) rfl (by kernel_rfl) (by kernel_rfl) (by kernel_rfl) (fun _ _ _ h => h) (Or.inl ⟨by rfl, fun w9 hSw => ?_⟩) hHeld ?_
  · (try dsimp only at hSw)
    have q0 := cells_below hSw (row_cell HV1.out 0) (by have := HVZ.out; omega)
    have q1 := cells_below hSw (row_cell HV1.out 1) (by have := HVZ.out; omega)
    have q2 := cells_below hSw (row_cell HV1.out 2) (by have := HVZ.out; omega)
    have q3 := cells_below hSw (row_cell HV1.out 3) (by have := HVZ.out; omega)
    have q4 := cells_below hSw (row_cell HV1.out 4) (by have := HVZ.out; omega)
    have q5 := cells_below hSw (row_cell HV1.out 5) (by have := HVZ.out; omega)
    simp at q0 q1 q2 q3 q4 q5
    go_simp
  try simp only [List.getElem_toArray, List.getElem_cons_succ, List.getElem_cons_zero, Act.put, List.setIfInBounds_toArray, List.set_cons_zero, List.set_cons_succ]
  refine wpAnyH_take (i := 1) (v := .slice H.Ai H.li H.ci) rfl (by kernel_rfl) (by kernel_rfl) (by kernel_rfl) (fun _ _ _ h => h) (Or.inl ⟨by rfl, fun w9 hSw => ?_⟩) hHeld ?_
  · (try dsimp only at hSw)
    go_simp
  try simp only [List.getElem_toArray, List.getElem_cons_succ, List.getElem_cons_zero, Act.put, List.setIfInBounds_toArray, List.set_cons_zero, List.set_cons_succ]
  refine wpAnyH_take (i := 2) (v := .agg #[.int .i64 H.mem, .int .i64 H.stk, .int .i64 H.inp, .slice H.Ad H.ld H.cd, .slice H.Af H.lf H.cf, .slice H.Ac H.lc H.cc]) rfl (by kernel_rfl) (by kernel_rfl) (by kernel_rfl) (fun _ _ _ h => h) (Or.inl ⟨by rfl, fun w9 hSw => ?_⟩) hHeld ?_
  · (try dsimp only at hSw)
    have q0 := cells_below hSw (row_cell HV1.out 0) (by have := HVZ.out; omega)
    have q1 := cells_below hSw (row_cell HV1.out 1) (by have := HVZ.out; omega)
    have q2 := cells_below hSw (row_cell HV1.out 2) (by have := HVZ.out; omega)
    have q3 := cells_below hSw (row_cell HV1.out 3) (by have := HVZ.out; omega)
    have q4 := cells_below hSw (row_cell HV1.out 4) (by have := HVZ.out; omega)
    have q5 := cells_below hSw (row_cell HV1.out 5) (by have := HVZ.out; omega)
    simp at q0 q1 q2 q3 q4 q5
    go_simp
  try simp only [List.getElem_toArray, List.getElem_cons_succ, List.getElem_cons_zero, Act.put, List.setIfInBounds_toArray, List.set_cons_zero, List.set_cons_succ]
  refine wpAnyH_ready (rs := [3]) (by kernel_rfl) (by simp) ?_
  refine (AllReadyH.cons rfl (fun K hK => ?_) AllReadyH.nil)
  go_simp
  go_at_call 22
  refine (start_any _ _ _ _ _ _ _ _ _ _ _ _ H.p _ (HHV.out.below (Below.refl _ _).drew).img HHV.out.e0 HM0.out.1 HM0.out.2.1 HM0.out.2.2).mono ?_
  rintro e v3 ⟨mb, n, rfl, hmb, hmn, hmem, hb3⟩
  have HMN := Lib.hid hmn
  clear hmn
  have hbs : Below v.heap.size v v3 := (Below.refl _ _).drew.trans hb3
  refine hK.out _ _ hbs (fun hHeld => ?_)
  clear hK K
  try simp only [List.getElem_toArray, List.getElem_cons_succ, List.getElem_cons_zero, Act.put, List.setIfInBounds_toArray, List.set_cons_zero, List.set_cons_succ]
  refine wpAnyH_ready (rs := [4]) (by kernel_rfl) (by simp) ?_
  refine (AllReadyH.cons rfl (fun K hK => ?_) AllReadyH.nil)
  go_simp
  go_at_call 29
  refine (newRunner_any _ _ _ _ _ _ _ _ _ _ _ _ _ _ _ _ _ _ _ _ _ _ _ _ _ _ _).mono ?_
  rintro e v4 ⟨g, rfl, hg, hrb, hb4⟩
  have hbs4 : Below v.heap.size v v4 := hbs.trans (hb4.mono hbs.size)
  refine hK.out _ _ hbs4 (fun hHeld => ?_)
  clear hK K
  try simp only [List.getElem_toArray, List.getElem_cons_succ, List.getElem_cons_zero, Act.put, List.setIfInBounds_toArray, List.set_cons_zero, List.set_cons_succ]
  refine wpAnyH_take (i := 5) (v := .pointer (some ⟨g, 0, none⟩)) rfl (by kernel_rfl) (by kernel_rfl) (by kernel_rfl) (fun _ _ _ h => h) (Or.inl ⟨by rfl, fun w9 hSw => ?_⟩) hHeld ?_
  · (try dsimp only at hSw)
    go_simp
  try simp only [List.getElem_toArray, List.getElem_cons_succ, List.getElem_cons_zero, Act.put, List.setIfInBounds_toArray, List.set_cons_zero, List.set_cons_succ]
  refine wpAnyH_done (by kernel_rfl) ?_ _
  have hst : Mc.start H.p = ⟨0, [0, 0, 0, 0, 0, 0, 0, 0], Mc.mem0 H.p, []⟩ := rfl
  have hmlen : (Mc.mem0 H.p).length = n := by
    have h1 := HOK0.out.ml
    have h2 := HHV.out.e0
    rw [hst] at h1
    simp only at h1
    have := HMN.out
    omega
  have hvz4 := hbs4.size
  have hv3z := hbs.size
  have hmbl : mb < v3.heap.size := (Array.getElem?_eq_some_iff.1 hmem).1
  have hmem4 := (hb4.block mb hmbl).trans hmem
  have hR0 : Rn H v g (.slice (some ⟨mb, 0, none⟩) n n) (.slice none 0 0) (Mc.start H.p) 0 v4 := by
    rw [hst]
    refine ⟨hbs4, ⟨_, hrb, Rc.new H _ _ 0 0 0 0 0 0 0 0 0 _ _⟩, ?_, World.ownsRow_nil _ _ _ _, by omega, ?_, by simp [Value.ownBlock], by simp [Value.ownBlock]⟩
    · rw [hmlen]
      exact ⟨by simp [hmlen], .inr ⟨mb, n, _, rfl, by simpa using hmb, hmem4, Nat.le_refl _, by have := HM0.out; have := HMN.out; unfold maxLen; omega, by simp [hmlen], by rw [Nat.mul_one, ← hmlen, ← List.length_map (f := Value.int .u8)]; exact List.take_length⟩⟩
    · simp [Value.ownBlock]; omega
  have HR0 := Lib.hid hR0
  have h7 := (hrb.c 7)
  simp at h7
  have HMB := Lib.hid (And.intro hmbl hmb)
  clear hst hmlen hvz4 hv3z hmem4 hR0 hrb hHeld hbs hb3 hb4 hmem hmb hmbl hg
  have HB4 := Lib.hid hbs4
  clear hbs4
  go_wp2
  have hpo0 : (v4.alloc (.cells #[.int .i64 0] 3)).ownsRow v.heap.size 3 1 (.slice (some ⟨v4.heap.size, 0, none⟩) 1 1) 1 ([(0 : Int)].map (Value.int .i64)) := ⟨rfl, .inr ⟨v4.heap.size, 1, _, rfl, HB4.out.size, heap_newM rfl, Nat.le_refl _, by unfold maxLen; omega, rfl, rfl⟩⟩
  have hR1 : Rg H v g (.slice (some ⟨mb, 0, none⟩) n n) N 0 R (.slice (some ⟨v4.heap.size, 0, none⟩) 1 1) (v4.alloc (.cells #[.int .i64 0] 3)) := by
    obtain ⟨cs0, hcs0, _⟩ := HR0.out.row
    exact ⟨Nat.zero_le _, Mc.start H.p, 0, .slice none 0 0, [0], HR0.out.below (Below.box _ _), HOK0.out, by rw [Nat.sub_zero]; exact HRUN.out.symm, hpo0, rfl, by have := hcs0.lt; simp [Value.ownBlock]; omega, fun k hk => ⟨by simp [Value.ownBlock] at hk ⊢; subst hk; have := (HR0.out.mo.lt mb rfl).2; omega, by simp [Value.ownBlock]⟩⟩
  have HR1 := Lib.hid hR1
  clear hpo0 hR1 h7 hmin
  go_loopw [11, 12, 41] (fun pv en i wr => ∃ (q : Nat) (pA : Option Addr) (pcap : Nat), i = .int .i64 q ∧ en = .int .i64 0 ∧ pv = .slice pA (q + 1) pcap ∧ Rg H v g (.slice (some ⟨mb, 0, none⟩) n n) N q R (.slice pA (q + 1) pcap) wr) (fun _ _ i _ => N - (intOf i).toNat)
  case atStart => exact ⟨0, _, _, rfl, rfl, rfl, HR1.out⟩
  case round =>
    obtain ⟨q, pA, pcap, rfl, rfl, rfl, hRg⟩ := hrel
    obtain ⟨hqN, s, nx, O, path, hRn, hOk, hgo, hpo, hpl, hpg, hpd⟩ := hRg
    have hNT := HN.out
    by_cases hqT : (q : Int) < T
    · obtain ⟨f, hf⟩ : ∃ f, N - q = f + 1 := ⟨N - q - 1, by omega⟩
      rw [hf] at hgo
      have hstep := step_any H v g (.slice (some ⟨mb, 0, none⟩) n n) O s nx wr HHV.out hRn HC.out (hOk.one HC.out)
      have hokn := hOk.step HC.out HWC.out HXS.out.1 HXS.out.2
      have hgn := @Mc.go_next H.p H.xs f s path
      have hgs := @Mc.go_stop H.p H.xs f s path
      have hss := @Mc.step_stay H.p H.xs s
      generalize Mc.step H.p H.xs s = r at *
      obtain ⟨s1, en⟩ := r
      simp only at hgn hgs hss hokn
      have HSTEP := Lib.hid hstep
      have HOKN := Lib.hid hokn
      have HGN := Lib.hid hgn
      have HGS := Lib.hid hgs
      have HSS := Lib.hid hss
      have HGO := Lib.hid hgo
      have HRN0 := Lib.hid hRn
      have HPO0 := Lib.hid hpo
      have HPD := Lib.hid (And.intro hpl (And.intro hpg hpd))
      have HF := Lib.hid hf
      have HQN := Lib.hid hqN
      clear hstep hokn hgn hgs hss hgo hRn hpo hpl hpg hpd hOk hf hqN hNT
      go_wp2_with fail
      refine HSTEP.out.mono ?_
      rintro e v5 ⟨O', nx', rfl, hRn, hfr, hor⟩
      have hpo : v5.ownsRow v.heap.size 3 1 (.slice pA (q + 1) pcap) (q + 1) (path.map (Value.int .i64)) := ownsRow.blk HPO0.out fun k hk => hfr.block k (HPO0.out.lt k hk).2 (fun e => HPD.out.2.1 (by rw [hk, e])) (fun e => (HPD.out.2.2 k hk).1 e.symm) (fun e => (HPD.out.2.2 k hk).2 e.symm)
      have hpd : ∀ k, (Value.slice pA (q + 1) pcap).ownBlock = some k → (Value.slice (some ⟨mb, 0, none⟩) n n).ownBlock ≠ some k ∧ O'.ownBlock ≠ some k := fun k hk => ⟨(HPD.out.2.2 k hk).1, fun e => by
        rcases hor with h1 | ⟨j, h1, h2⟩
        · exact (HPD.out.2.2 k hk).2 (h1.symm.trans e)
        · rw [h1] at e; injection e with e; have := (HPO0.out.lt k hk).2; omega⟩
      by_cases hen : en = 0
      · subst hen
        have hgn := HGN.out rfl
        have hok1 := HOKN.out
        obtain ⟨cv, hbv, hcv⟩ := hRn.row
        have k7 := (hbv.c 7).trans hcv.c7
        have HRNN := Lib.hid hRn
        have HPO := Lib.hid hpo
        have HPD2 := Lib.hid hpd
        have HGN2 := Lib.hid hgn
        have HOK1 := Lib.hid hok1
        have hgl : g < v5.heap.size := hbv.lt
        have hsz5 := hRn.bel.size
        have hl10 : q + 1 ≤ 5000 := by have := HPD.out.1; have := HQN.out; have := HN.out; have := HTT.out; omega
        have ho1 := (HPO.out.alloc (.cells #[.int .i64 s1.pl] 3))
        have HO1 := Lib.hid ho1
        clear hgn hok1 hbv hcv hRn hpo hpd hfr hor ho1
        obtain ⟨i0, hi0, hz0, hz1, hz2⟩ := info_parts i64_infoM
        go_wp2_with (
          at_builtin
          refine wpList_apM (w := v5.alloc (.cells #[.int .i64 s1.pl] 3)) rfl (.tmp 47) (.tmp 53) 23 rfl v.heap.size 3 i0 _ 8 Tryd.underlying23 hi0 hz0 hz1 hz2 rfl (.slice pA (q + 1) pcap) (q + 1) _ rfl HO1.out ⟨v5.heap.size, 0, none⟩ 1 1 [.int .i64 s1.pl] rfl (Sl.new v5 [.int .i64 s1.pl] 3) (one_cell64M [s1.pl]) (by simp only [maxLen]; omega) (by omega) (by simp; omega) ?_
          intro pv' v6 hpo6 hg6 hor6
          obtain ⟨pA', pcap', rfl, _, _, _⟩ := own_open hpo6)
        have hsa : (v5.alloc (.cells #[.int .i64 s1.pl] 3)).heap.size = v5.heap.size + 1 := by simp
        rw [hsa] at hor6
        go_roundw
        case rel =>
          refine ⟨q + 1, pA', pcap', by go_num, rfl, rfl, by have := HF.out; omega, s1, nx', O', path ++ [s1.pl], ?_, HOK1.out, ?_, by simpa using hpo6, by have := HPD.out.1; simp; omega, ?_, ?_⟩
          · refine (HRNN.out.below (Below.box _ _)).grown hg6 (fun k hk => (HPO.out.lt k hk).1) HPD.out.2.1 HPD2.out
          · have h1 := HGO.out
            rw [HGN2.out] at h1
            rw [← h1, show N - (q + 1) = f by have := HF.out; omega]
          · rcases hor6 with h1 | h1
            · rw [h1]; exact HPD.out.2.1
            · rw [h1]; intro e; injection e with e; omega
          · intro k hk
            rcases hor6 with h1 | h1
            · exact HPD2.out k (h1.symm.trans hk)
            · rw [h1] at hk
              injection hk with hk
              exact ⟨fun e => by have := (HRNN.out.mo.lt k e).2; omega, fun e => by have := (HRNN.out.oo.lt k e).2; omega⟩
        case measure => simp [intOf]; have := HF.out; omega
      · have hgs := HGS.out hen
        have hreq := HGO.out
        rw [hgs] at hreq
        have hss := HSS.out hen
        subst hss
        have HREQ := Lib.hid hreq
        have hen' : (en == 0) = false := by simpa using hen
        have hen2 : (en != 0) = true := by simpa using hen
        have hpl := HPD.out.1
        clear hgs hreq hen hfr hor hpd
        go_wp2_with fail
        have HPL := Lib.hid hpl
        have hF := hRn
        obtain ⟨cv, hbv, hcv⟩ := hRn.row
        obtain ⟨mA, mcap, hMv, _, _, _⟩ := own_open hRn.mo
        have k8 := (hbv.drew.c 8).trans (hcv.rg 0 (by decide))
        have k9 := (hbv.drew.c 9).trans (hcv.rg 1 (by decide))
        have k10 := (hbv.drew.c 10).trans (hcv.rg 2 (by decide))
        have k11 := (hbv.drew.c 11).trans (hcv.rg 3 (by decide))
        have k12 := (hbv.drew.c 12).trans (hcv.rg 4 (by decide))
        have k13 := (hbv.drew.c 13).trans (hcv.rg 5 (by decide))
        have k14 := (hbv.drew.c 14).trans (hcv.rg 6 (by decide))
        have k15 := (hbv.drew.c 15).trans (hcv.rg 7 (by decide))
        have k16 := (hbv.drew.c 16).trans hcv.c16
        have hrg : trC (.slice pA (q + 1) pcap) en s1.rg (.slice (some ⟨mb, 0, none⟩) n n) = #[.slice pA (q + 1) pcap, .int .i64 en, .int .u64 (s1.rg.getD 0 0), .int .u64 (s1.rg.getD 1 0), .int .u64 (s1.rg.getD 2 0), .int .u64 (s1.rg.getD 3 0), .int .u64 (s1.rg.getD 4 0), .int .u64 (s1.rg.getD 5 0), .int .u64 (s1.rg.getD 6 0), .int .u64 (s1.rg.getD 7 0), .slice (some ⟨mb, 0, none⟩) n n] := rfl
        generalize s1.rg.getD 0 0 = r0 at *
        generalize s1.rg.getD 1 0 = r1 at *
        generalize s1.rg.getD 2 0 = r2 at *
        generalize s1.rg.getD 3 0 = r3 at *
        generalize s1.rg.getD 4 0 = r4 at *
        generalize s1.rg.getD 5 0 = r5 at *
        generalize s1.rg.getD 6 0 = r6 at *
        generalize s1.rg.getD 7 0 = r7 at *
        have htb : v5.heap[w.heap.size + 1]? = some (.cells #[.slice none 0 0, .int .i64 0, .int .u64 0, .int .u64 0, .int .u64 0, .int .u64 0, .int .u64 0, .int .u64 0, .int .u64 0, .int .u64 0, .slice none 0 0] 32 (0, 0)) := (hRn.bel.block _ (by have := HVZ.out; omega)).trans HV2.out
        have h1c : (#[.slice pA (q + 1) pcap, .int .i64 en, .int .u64 r0, .int .u64 r1, .int .u64 r2, .int .u64 r3, .int .u64 r4, .int .u64 r5, .int .u64 r6, .int .u64 r7, .slice (some ⟨mb, 0, none⟩) n n] : Array Value).all (·.oneCell') = true := by simp [Value.oneCell']
        have HRG := Lib.hid hrg
        have HTB := Lib.hid htb
        have H1C := Lib.hid h1c
        have HRN := Lib.hid hF
        have HPO := Lib.hid hpo
        clear hF hRn hbv hcv hMv hrg htb h1c hpo
        refine still_tail 13 (by kernel_rfl) (by kernel_rfl) ?_
        simp only [List.take_succ_cons, List.take_zero, List.drop_succ_cons, List.drop_zero]
        repeat still_step
        refine wpStill_nil ?_
        clear k8 k9 k10 k11 k12 k13 k14 k15 k16
        have hdr : v5.drew.heap[w.heap.size + 1]? = some (.cells #[.slice none 0 0, .int .i64 0, .int .u64 0, .int .u64 0, .int .u64 0, .int .u64 0, .int .u64 0, .int .u64 0, .int .u64 0, .int .u64 0, .slice none 0 0] 32 (0, 0)) := HTB.out
        have HDR := Lib.hid hdr
        clear hdr
        go_wp2_with (first | (with_reducible refine store_tr (.tmp 6) (.tmp 68) _ _ #[.slice pA (q + 1) pcap, .int .i64 en, .int .u64 r0, .int .u64 r1, .int .u64 r2, .int .u64 r3, .int .u64 r4, .int .u64 r5, .int .u64 r6, .int .u64 r7, .slice (some ⟨mb, 0, none⟩) n n] HDR.out rfl rfl rfl rfl rfl rfl H1C.out ?_) | fail)
        refine ret_tr (w.heap.size + 1) #[.slice pA (q + 1) pcap, .int .i64 en, .int .u64 r0, .int .u64 r1, .int .u64 r2, .int .u64 r3, .int .u64 r4, .int .u64 r5, .int .u64 r6, .int .u64 r7, .slice (some ⟨mb, 0, none⟩) n n] (.int .i64 0) (setRow_heap _ _ _ _ _ _ HDR.out) rfl rfl rfl rfl rfl ?_
        have hRR := HREQ.out
        subst hRR
        have hvs : w.heap.size + 2 ≤ v.heap.size := HVZ.out
        refine ⟨.slice pA (q + 1) pcap, .slice (some ⟨mb, 0, none⟩) n n, by rw [← HRG.out], ?_, ?_, below_setRowM (HB2.out.trans (HRN.out.bel.mono (by omega))).drew (by omega) _⟩
        · simp only
          rw [HPL.out]
          exact Joins.ownsRow_le (ownsRow.blk HPO.out.drew fun k hk => setRow_other _ _ _ _ (by have := (HPO.out.lt k hk).1; omega)) (by omega)
        · exact Joins.ownsRow_le (ownsRow.blk HRN.out.mo.drew fun k hk => setRow_other _ _ _ _ (by have := (HRN.out.mo.lt k hk).1; omega)) (by omega)
    · have hqe : q = N := by omega
      have hreq := hgo
      rw [hqe, Nat.sub_self] at hreq
      have hreq : (path, s, (0 : Int)) = R := hreq
      have HREQ := Lib.hid hreq
      clear hreq hgo hqe hpg hpd hNT hqN hOk
      go_wp2_with fail
      have HPL := Lib.hid hpl
      have hF := hRn
      obtain ⟨cv, hbv, hcv⟩ := hRn.row
      obtain ⟨mA, mcap, hMv, _, _, _⟩ := own_open hRn.mo
      have k8 := (hbv.drew.c 8).trans (hcv.rg 0 (by decide))
      have k9 := (hbv.drew.c 9).trans (hcv.rg 1 (by decide))
      have k10 := (hbv.drew.c 10).trans (hcv.rg 2 (by decide))
      have k11 := (hbv.drew.c 11).trans (hcv.rg 3 (by decide))
      have k12 := (hbv.drew.c 12).trans (hcv.rg 4 (by decide))
      have k13 := (hbv.drew.c 13).trans (hcv.rg 5 (by decide))
      have k14 := (hbv.drew.c 14).trans (hcv.rg 6 (by decide))
      have k15 := (hbv.drew.c 15).trans (hcv.rg 7 (by decide))
      have k16 := (hbv.drew.c 16).trans hcv.c16
      have hrg : trC (.slice pA (q + 1) pcap) 0 s.rg (.slice (some ⟨mb, 0, none⟩) n n) = #[.slice pA (q + 1) pcap, .int .i64 0, .int .u64 (s.rg.getD 0 0), .int .u64 (s.rg.getD 1 0), .int .u64 (s.rg.getD 2 0), .int .u64 (s.rg.getD 3 0), .int .u64 (s.rg.getD 4 0), .int .u64 (s.rg.getD 5 0), .int .u64 (s.rg.getD 6 0), .int .u64 (s.rg.getD 7 0), .slice (some ⟨mb, 0, none⟩) n n] := rfl
      generalize s.rg.getD 0 0 = r0 at *
      generalize s.rg.getD 1 0 = r1 at *
      generalize s.rg.getD 2 0 = r2 at *
      generalize s.rg.getD 3 0 = r3 at *
      generalize s.rg.getD 4 0 = r4 at *
      generalize s.rg.getD 5 0 = r5 at *
      generalize s.rg.getD 6 0 = r6 at *
      generalize s.rg.getD 7 0 = r7 at *
      have htb : wr.heap[w.heap.size + 1]? = some (.cells #[.slice none 0 0, .int .i64 0, .int .u64 0, .int .u64 0, .int .u64 0, .int .u64 0, .int .u64 0, .int .u64 0, .int .u64 0, .int .u64 0, .slice none 0 0] 32 (0, 0)) := (hRn.bel.block _ (by have := HVZ.out; omega)).trans HV2.out
      have h1c : (#[.slice pA (q + 1) pcap, .int .i64 0, .int .u64 r0, .int .u64 r1, .int .u64 r2, .int .u64 r3, .int .u64 r4, .int .u64 r5, .int .u64 r6, .int .u64 r7, .slice (some ⟨mb, 0, none⟩) n n] : Array Value).all (·.oneCell') = true := by simp [Value.oneCell']
      have HRG := Lib.hid hrg
      have HTB := Lib.hid htb
      have H1C := Lib.hid h1c
      have HRN := Lib.hid hF
      have HPO := Lib.hid hpo
      clear hF hRn hbv hcv hMv hrg htb h1c hpo
      refine still_tail 13 (by kernel_rfl) (by kernel_rfl) ?_
      simp only [List.take_succ_cons, List.take_zero, List.drop_succ_cons, List.drop_zero]
      repeat still_step
      refine wpStill_nil ?_
      clear k8 k9 k10 k11 k12 k13 k14 k15 k16
      have hdr : wr.drew.heap[w.heap.size + 1]? = some (.cells #[.slice none 0 0, .int .i64 0, .int .u64 0, .int .u64 0, .int .u64 0, .int .u64 0, .int .u64 0, .int .u64 0, .int .u64 0, .int .u64 0, .slice none 0 0] 32 (0, 0)) := HTB.out
      have HDR := Lib.hid hdr
      clear hdr
      go_wp2_with (first | (with_reducible refine store_tr (.tmp 6) (.tmp 68) _ _ #[.slice pA (q + 1) pcap, .int .i64 0, .int .u64 r0, .int .u64 r1, .int .u64 r2, .int .u64 r3, .int .u64 r4, .int .u64 r5, .int .u64 r6, .int .u64 r7, .slice (some ⟨mb, 0, none⟩) n n] HDR.out rfl rfl rfl rfl rfl rfl H1C.out ?_) | fail)
      refine ret_tr (w.heap.size + 1) #[.slice pA (q + 1) pcap, .int .i64 0, .int .u64 r0, .int .u64 r1, .int .u64 r2, .int .u64 r3, .int .u64 r4, .int .u64 r5, .int .u64 r6, .int .u64 r7, .slice (some ⟨mb, 0, none⟩) n n] (.int .i64 0) (setRow_heap _ _ _ _ _ _ HDR.out) rfl rfl rfl rfl rfl ?_
      have hRR := HREQ.out
      subst hRR
      have hvs : w.heap.size + 2 ≤ v.heap.size := HVZ.out
      refine ⟨.slice pA (q + 1) pcap, .slice (some ⟨mb, 0, none⟩) n n, by rw [← HRG.out], ?_, ?_, below_setRowM (HB2.out.trans (HRN.out.bel.mono (by omega))).drew (by omega) _⟩
      · simp only
        rw [HPL.out]
        exact Joins.ownsRow_le (ownsRow.blk HPO.out.drew fun k hk => setRow_other _ _ _ _ (by have := (HPO.out.lt k hk).1; omega)) (by omega)
      · exact Joins.ownsRow_le (ownsRow.blk HRN.out.mo.drew fun k hk => setRow_other _ _ _ _ (by have := (HRN.out.mo.lt k hk).1; omega)) (by omega)
end Go.Proofs.YtfhnigfghfmolaaDoor
namespace Go.Proofs.YtfhnigfghfmolaaDoor
set_option maxRecDepth 100000
open Go.RowKit

theorem InSl.of_own {w : World} {base : Nat} {A : Option Addr} {n cap : Nat} {xs : List Int} (h : w.ownsRow base 3 1 (.slice A n cap) n (xs.map (Value.int .i64))) : InSl w A n cap xs := by
  obtain ⟨A', cap', he, h1, h2, hs, _⟩ := Sl.of_own h
  injection he with e1 e2 e3
  subst e1 e3
  have hl : xs.length = n := by have := hs.1; rwa [List.length_map] at this
  refine ⟨hl, h1, h2, fun hA => ?_, fun h0 => ?_⟩
  · rcases Nat.eq_zero_or_pos n with h0 | h0
    · exact h0
    · obtain ⟨b, o, e, _⟩ := hs.2 h0
      rw [hA] at e; cases e
  · obtain ⟨b, o, e, hlt, hc⟩ := hs.2 h0
    refine ⟨b, o, e, hlt, fun i hi => ?_⟩
    have := hc i (.int .i64 (xs.getD i 0)) (by rw [List.getElem?_map, List.getD_eq_getElem?_getD, List.getElem?_eq_getElem (by omega)]; rfl)
    rwa [add_at] at this
theorem ret_int' {a b : Int} (h : a = b) : Ending.returned (.int .i64 a) = .returned (.int .i64 b) := by rw [h]
/-- Has an image no more parts than are gone through? -/
def fewB (ld lf lc : Nat) : Bool := decide ((ld : Int) ≤ 100) && decide ((lf : Int) ≤ 40) && decide ((lc : Int) ≤ 300)
set_option maxHeartbeats 400000 in
theorem few_any (mem stk inp : Int) (Ad : Option Addr) (ld cd : Nat) (Af : Option Addr) (lf cf : Nat) (Ac : Option Addr) (lc cc : Nat) (w : World) (h1 : ld ≤ maxLen) (h2 : lf ≤ maxLen) (h3 : lc ≤ maxLen) :
    Calls Tryd.prog 27 #[.agg #[.int .i64 mem, .int .i64 stk, .int .i64 inp, .slice Ad ld cd, .slice Af lf cf, .slice Ac lc cc]] w fun e w' => e = .returned (.bool (fewB ld lf lc)) ∧ Below w.heap.size w w' := by
  unfold maxLen at h1 h2 h3
  go_enter Tryd.func27, Tryd.ntmps27
  go_wp2
  all_goals
    go_ret
    refine ⟨ret_bool ?_, Below.box _ _⟩
    simp_all [fewB]
    try omega

namespace Mc
theorem go_ok {p : Im.Pic} {xs : List Int} (hR : R p) (hW : Wc p) (hx : Cd.isB xs) (hl : xs.length < 1000) : ∀ (n : Nat) (s : St) (path : List Int), Ok p s → Ok p (go p xs n s path).2.1 := by
  intro n
  induction n with
  | zero => intro s path h; exact h
  | succ n ih =>
    intro s path h
    rw [go]
    split
    · exact ih _ _ (h.step hR hW hx hl)
    · exact h
def first (l : List Int) (x : Int) : Int := if l.findIdx (· == x) < l.length then l.findIdx (· == x) else -1
theorem first_at {l : List Int} {x : Int} {k : Nat} (hk : k < l.length) (h : l.getD k 0 = x) (hn : ∀ j, j < k → l.getD j 0 ≠ x) : first l x = k := by
  have e : l.findIdx (· == x) = k := by
    rw [List.findIdx_eq hk]
    rw [List.getD_eq_getElem?_getD, List.getElem?_eq_getElem hk] at h
    refine ⟨by simpa using h, fun j hj => ?_⟩
    have := hn j hj
    rw [List.getD_eq_getElem?_getD, List.getElem?_eq_getElem (by omega)] at this
    simpa using this
  unfold first
  rw [e, if_pos hk]
theorem first_none {l : List Int} {x : Int} (hn : ∀ j, j < l.length → l.getD j 0 ≠ x) : first l x = -1 := by
  have e : l.findIdx (· == x) = l.length := by
    refine List.findIdx_eq_length.2 fun y hy => ?_
    obtain ⟨j, hj, rfl⟩ := List.getElem_of_mem hy
    have := hn j hj
    rw [List.getD_eq_getElem?_getD, List.getElem?_eq_getElem hj] at this
    simpa using this
  unfold first
  rw [e, if_neg (Nat.lt_irrefl _)]
theorem first_ge (l : List Int) (x : Int) : -1 ≤ first l x ∧ first l x < l.length := by
  unfold first
  split <;> omega
end Mc

set_option maxHeartbeats 1600000 in
theorem index_any (A : Option Addr) (n cap : Nat) (l : List Int) (x : Int) (w : World) (h : InSl w A n cap l) :
    Calls Tryd.prog 32 #[.slice A n cap, .int .i64 x] w fun e w' => e = .returned (.int .i64 (Mc.first l x)) ∧ Below w.heap.size w w' := by
  have hlm := Nat.le_trans h.hle h.hcap
  have hll := h.hlen
  unfold maxLen at hlm
  have HL := Lib.hid hll
  have HH := Lib.hid h
  clear h hll
  go_enter Tryd.func32, Tryd.ntmps32
  go_wp2
  go_loopw [5, 8] (fun _ i wr => ∃ k : Nat, k ≤ n ∧ i = .int .i64 k ∧ Below w.heap.size w wr ∧ ∀ j, j < k → l.getD j 0 ≠ x) (fun _ i _ => n - (intOf i).toNat)
  case atStart => exact ⟨0, by omega, rfl, Below.refl _ _, fun j hj => absurd hj (by omega)⟩
  case round =>
    obtain ⟨k, hk, rfl, hbr, hall⟩ := hrel
    have HR := Lib.hid hbr
    have HA := Lib.hid hall
    clear hbr hall
    by_cases hlt : k < n
    · have hkn : (k : Int) < n := by omega
      obtain ⟨b, o, rfl, hb, hx⟩ := HH.out.mem (by omega)
      have ck := (HR.out.cell (p := ⟨b, o + k, none⟩) hb).trans (hx k hlt)
      clear hx
      obtain ⟨z, hz⟩ : ∃ z, l.getD k 0 = z := ⟨_, rfl⟩
      rw [hz] at ck
      have HZ := Lib.hid hz
      clear hz
      by_cases hxz : x = z
      · have e0 : (x == z) = true := by simpa using hxz
        have HX := Lib.hid hxz
        clear hxz
        go_wp2
        go_ret
        exact ⟨ret_int' (Mc.first_at (by rw [HL.out]; exact hlt) (HZ.out.trans HX.out.symm) HA.out).symm, HR.out⟩
      · have e0 : (x == z) = false := by simpa using hxz
        have HX := Lib.hid hxz
        clear hxz
        go_wp2
        go_roundw
        case rel =>
          refine ⟨k + 1, by omega, by go_num, HR.out, fun j hj => ?_⟩
          rcases Nat.lt_succ_iff_lt_or_eq.1 hj with h1 | h1
          · exact HA.out j h1
          · rw [h1, HZ.out]; exact fun e => HX.out e.symm
        case measure => simp [intOf]; omega
    · have hkl : k = n := by omega
      have HK := Lib.hid hkl
      clear hkl
      have hkn : ¬ (k : Int) < n := by omega
      go_wp2
      go_ret
      exact ⟨ret_int' (Mc.first_none fun j hj => HA.out j (by have := HL.out; have := HK.out; omega)).symm, HR.out⟩

set_option maxHeartbeats 1600000 in
theorem first_any (A : Option Addr) (n cap : Nat) (l : List Int) (x : Int) (w : World) (h : InSl w A n cap l) :
    Calls Tryd.prog 25 #[.slice A n cap, .int .i64 x] w fun e w' => e = .returned (.int .i64 (Mc.first l x)) ∧ Below w.heap.size w w' := by
  have hlm := Nat.le_trans h.hle h.hcap
  have hll := h.hlen
  unfold maxLen at hlm
  have HL := Lib.hid hll
  have HH := Lib.hid h
  clear h hll
  go_enter Tryd.func25, Tryd.ntmps25
  go_wp2
  go_loopw [5] (fun i wr => ∃ k : Nat, k ≤ n ∧ i = .int .i64 k ∧ Below w.heap.size w wr ∧ ∀ j, j < k → l.getD j 0 ≠ x) (fun i _ => n - (intOf i).toNat)
  case atStart => exact ⟨0, by omega, rfl, Below.refl _ _, fun j hj => absurd hj (by omega)⟩
  case round =>
    obtain ⟨k, hk, rfl, hbr, hall⟩ := hrel
    have HR := Lib.hid hbr
    have HA := Lib.hid hall
    clear hbr hall
    by_cases hlt : k < n
    · have hkn : (k : Int) < n := by omega
      obtain ⟨b, o, rfl, hb, hx⟩ := HH.out.mem (by omega)
      have ck := (HR.out.cell (p := ⟨b, o + k, none⟩) hb).trans (hx k hlt)
      clear hx
      obtain ⟨z, hz⟩ : ∃ z, l.getD k 0 = z := ⟨_, rfl⟩
      rw [hz] at ck
      have HZ := Lib.hid hz
      clear hz
      by_cases hxz : x = z
      · have e0 : (z == x) = true := by simpa using hxz.symm
        have HX := Lib.hid hxz
        clear hxz
        go_wp2
        go_ret
        exact ⟨ret_int' (Mc.first_at (by rw [HL.out]; exact hlt) (HZ.out.trans HX.out.symm) HA.out).symm, HR.out⟩
      · have e0 : (z == x) = false := by simpa using fun e : z = x => hxz e.symm
        have HX := Lib.hid hxz
        clear hxz
        go_wp2
        go_roundw
        case rel =>
          refine ⟨k + 1, by omega, by go_num, HR.out, fun j hj => ?_⟩
          rcases Nat.lt_succ_iff_lt_or_eq.1 hj with h1 | h1
          · exact HA.out j h1
          · rw [h1, HZ.out]; exact fun e => HX.out e.symm
        case measure => simp [intOf]; omega
    · have hkl : k = n := by omega
      have HK := Lib.hid hkl
      clear hkl
      have hkn : ¬ (k : Int) < n := by omega
      go_wp2
      go_ret
      exact ⟨ret_int' (Mc.first_none fun j hj => HA.out j (by have := HL.out; have := HK.out; omega)).symm, HR.out⟩

/-- What Run answers, whatever the image and the input. -/
def RunA (r : List Int × Int × List Int × List Int × Int) (w : World) (e : Ending) (w' : World) : Prop :=
  ∃ pA pcap mA mcap, e = .returned (.tuple #[.agg (trC (.slice pA r.1.length pcap) r.2.1 r.2.2.1 (.slice mA r.2.2.2.1.length mcap)), .int .i64 r.2.2.2.2]) ∧ InSl w' pA r.1.length pcap r.1 ∧ BySl w' mA r.2.2.2.1.length mcap r.2.2.2.1 ∧ Below w.heap.size w w'
theorem answer_isB {p : Im.Pic} {xs : List Int} (steps : Int) (hW : Mc.Wc p) (hx : Cd.isB xs) (hd : Cd.isB p.ds) : Cd.isB (Mc.answer p xs steps).2.2.2.1 := by
  unfold Mc.answer
  split
  · exact isB_of fun n hn => absurd hn (by simp)
  · rename_i h0
    split
    · exact isB_of fun n hn => absurd hn (by simp)
    · rename_i h1
      have hR : Mc.R p := by unfold Mc.R; simpa using h0
      have hC := hR.cnt.2.2.1
      exact (Mc.go_ok hR hW hx (by omega) _ _ _ (Mc.mem0_ok hR hd)).mb
theorem run_any (H : Hd) (steps : Int) (w : World) (ho : Ops w) (HA : HdAt w H) :
    Calls Tryd.prog 12 #[.agg #[.int .i64 H.mem, .int .i64 H.stk, .int .i64 H.inp, .slice H.Ad H.ld H.cd, .slice H.Af H.lf H.cf, .slice H.Ac H.lc H.cc], .slice H.Ai H.li H.ci, .int .i64 steps] w (RunA (Mc.answer H.p H.xs steps) w) := by
  have key : Calls Tryd.prog 12 #[.agg #[.int .i64 H.mem, .int .i64 H.stk, .int .i64 H.inp, .slice H.Ad H.ld H.cd, .slice H.Af H.lf H.cf, .slice H.Ac H.lc H.cc], .slice H.Ai H.li H.ci, .int .i64 steps] w (RunP (Mc.answer H.p H.xs steps) w) := by
    by_cases hc : Im.chk H.p = 0
    · by_cases hl : H.p.inp < H.xs.length
      · exact run_long H steps w ho HA hc hl
      · exact run_right H steps w ho HA hc (by omega)
    · exact run_bad H steps w ho HA hc
  refine key.mono ?_
  rintro e w' ⟨PV, M, he, h1, h2, h3⟩
  obtain ⟨pA, pcap, hp, _⟩ := own_open h1
  obtain ⟨mA, mcap, hm, _⟩ := own_open h2
  rw [hp] at h1 he
  rw [hm] at h2 he
  exact ⟨pA, pcap, mA, mcap, he, InSl.of_own h1, BySl.of_own h2 (answer_isB steps HA.img.c.rng HA.inp.isB HA.img.d.isB), h3⟩
end Go.Proofs.YtfhnigfghfmolaaDoor
namespace Go.Proofs.YtfhnigfghfmolaaDoor
set_option maxRecDepth 100000
open Go.RowKit

def Mc.reachN (p : Im.Pic) (xs : List Int) (t steps : Int) : Int := max (Mc.first (Mc.answer p xs steps).1 t) 0
def Mc.reachB (p : Im.Pic) (xs : List Int) (t steps : Int) : Bool := decide (0 ≤ Mc.first (Mc.answer p xs steps).1 t)

set_option maxRecDepth 20000 in
set_option maxHeartbeats 3200000 in
theorem reach_any' (H : Hd) (t steps : Int) (w : World) (ho : Ops w) (HA : HdAt w H) :
    Calls Tryd.prog 14 #[.agg #[.int .i64 H.mem, .int .i64 H.stk, .int .i64 H.inp, .slice H.Ad H.ld H.cd, .slice H.Af H.lf H.cf, .slice H.Ac H.lc H.cc], .slice H.Ai H.li H.ci, .int .i64 t, .int .i64 steps] w fun e w' => e = .returned (.tuple #[.int .i64 (Mc.reachN H.p H.xs t steps), .bool (Mc.reachB H.p H.xs t steps)]) ∧ Below w.heap.size w w' := by
  have hp := ho.pos
  have hrun : ∀ W, Below w.heap.size w W → Calls Tryd.prog 12 #[.agg #[.int .i64 H.mem, .int .i64 H.stk, .int .i64 H.inp, .slice H.Ad H.ld H.cd, .slice H.Af H.lf H.cf, .slice H.Ac H.lc H.cc], .slice H.Ai H.li H.ci, .int .i64 steps] W (RunA (Mc.answer H.p H.xs steps) W) := fun W hW => run_any H steps W (ho.below hW hp) (HA.below hW)
  unfold Mc.reachN Mc.reachB
  generalize Mc.answer H.p H.xs steps = r at *
  obtain ⟨path, en, rg, mm, er⟩ := r
  simp only
  obtain ⟨f, hf⟩ : ∃ f, Mc.first path t = f := ⟨_, rfl⟩
  rw [hf]
  obtain ⟨g, hg⟩ : ∃ g, max f 0 = g := ⟨_, rfl⟩
  rw [hg]
  have hmx : ∀ ts t W, (Builtin.max_ ts t #[.int .i64 f, .int .i64 0]).run Tryd.prog W = .ok (.int .i64 g) W := fun ts t W => by
    have : g = if f < 0 then 0 else f := by rw [← hg]; split <;> omega
    rw [this]
    simp [Builtin.max_, Builtin.max2]
  have HF := Lib.hid hf
  have HRUN := Lib.hid hrun
  clear hrun ho HA hg hf
  go_enter Tryd.func14, Tryd.ntmps14
  go_wp2_with fail
  have hB : ∀ o, Below w.heap.size w (w.alloc o) := fun o => Below.box w o
  refine (HRUN.out _ (hB _)).mono ?_
  rintro e v ⟨pA, pcap, mA, mcap, rfl, hin, hby, hbv⟩
  simp only at hin hbv ⊢
  have hbv2 := (hB _).trans (hbv.mono (by simp))
  have hidx : ∀ W, Below v.heap.size v W → Calls Tryd.prog 32 #[.slice pA path.length pcap, .int .i64 t] W fun e w' => e = .returned (.int .i64 f) ∧ Below W.heap.size W w' := fun W hW => by
    rw [← HF.out]; exact index_any pA path.length pcap path t W (hin.below hW)
  have HB := Lib.hid hbv2
  have HIX := Lib.hid hidx
  have hpl := Nat.le_trans hin.hle hin.hcap
  unfold maxLen at hpl
  clear hin hby hbv hbv2 hidx hB
  generalize path.length = pn at *
  generalize rg.getD 0 0 = r0 at *
  generalize rg.getD 1 0 = r1 at *
  generalize rg.getD 2 0 = r2 at *
  generalize rg.getD 3 0 = r3 at *
  generalize rg.getD 4 0 = r4 at *
  generalize rg.getD 5 0 = r5 at *
  generalize rg.getD 6 0 = r6 at *
  generalize rg.getD 7 0 = r7 at *
  generalize mm.length = mn at *
  go_wp2_with (go_at_call 32; refine (HIX.out _ ?hw).mono ?_; rotate_left; rintro e v2 ⟨rfl, hb2⟩; have HB2 := Lib.hid hb2; clear hb2)
  case hw => exact Below.box _ _
  go_ret2
  exact ⟨rfl, HB.out.trans (((Below.box _ _).trans (HB2.out.mono (by simp))).mono HB.out.size)⟩
end Go.Proofs.YtfhnigfghfmolaaDoor
namespace Go.Proofs.YtfhnigfghfmolaaDoor
set_option maxRecDepth 100000
open Go.RowKit

def greatB (ld lf lc li : Nat) (steps : Int) : Bool := !fewB ld lf lc || decide ((40 : Int) < li) || decide (300 < steps)
set_option maxHeartbeats 1600000 in
theorem great_any (mem stk inp : Int) (Ad : Option Addr) (ld cd : Nat) (Af : Option Addr) (lf cf : Nat) (Ac : Option Addr) (lc cc : Nat) (Ai : Option Addr) (li ci : Nat) (steps : Int) (w : World) (h1 : ld ≤ maxLen) (h2 : lf ≤ maxLen) (h3 : lc ≤ maxLen) (h4 : li ≤ maxLen) :
    Calls Tryd.prog 11 #[.agg #[.int .i64 mem, .int .i64 stk, .int .i64 inp, .slice Ad ld cd, .slice Af lf cf, .slice Ac lc cc], .slice Ai li ci, .int .i64 steps] w fun e w' => e = .returned (.bool (greatB ld lf lc li steps)) ∧ Below w.heap.size w w' := by
  have hf := fun W => few_any mem stk inp Ad ld cd Af lf cf Ac lc cc W h1 h2 h3
  unfold greatB
  unfold maxLen at h4
  generalize fewB ld lf lc = q at *
  have HF := Lib.hid hf
  clear hf
  go_enter Tryd.func11, Tryd.ntmps11
  go_wp2_with (go_at_call 27; refine (HF.out _).mono ?_; rintro e v ⟨rfl, hb⟩; have HB := Lib.hid hb; clear hb)
  all_goals
    go_ret
    refine ⟨ret_bool ?_, (Below.box _ _).trans (HB.out.mono (by simp))⟩
    simp_all
    try omega

def exM : Im.Pic := ⟨0, 0, 0, [], [0], [⟨1, 1, 0, 0, 5⟩, Im.z5]⟩
theorem exM9 : Mc.answer exM [] 9 = ([0, 1], 1, [0, 5, 0, 0, 0, 0, 0, 0], [], 0) := by decide +kernel
theorem exM1 : Mc.answer exM [] 1 = ([0, 1], 0, [0, 5, 0, 0, 0, 0, 0, 0], [], 0) := by decide +kernel
theorem exN : Mc.reachN exM [] 1 1 = 1 := by unfold Mc.reachN; rw [exM1]; decide +kernel
theorem exB2 : Mc.reachB exM [] 1 1 = true := by unfold Mc.reachB; rw [exM1]; decide +kernel

set_option maxRecDepth 20000 in
set_option maxHeartbeats 3200000 in
theorem mc_awake (w : World) (ho : Ops w) : Calls Tryd.prog 10 #[] w fun e w' => e = .returned (.bool true) ∧ Below w.heap.size w w' := by
  have hp := ho.pos
  obtain ⟨H, hH⟩ : ∃ H : Hd, H = ⟨0, 0, 0, none, 0, 0, some ⟨w.heap.size, 0, none⟩, 1, 1, some ⟨w.heap.size + 1, 0, none⟩, 2, 2, none, 0, 0, exM, []⟩ := ⟨_, rfl⟩
  have hI : ∀ o, Below w.heap.size w (((w.alloc (.cells #[.int .i64 0] 3)).alloc (.cells #[.int .i64 1, .int .i64 1, .int .i64 0, .int .i64 0, .int .u64 5, .int .i64 0, .int .i64 0, .int .i64 0, .int .i64 0, .int .u64 0] 59)).alloc o) := fun o => (((Below.refl _ _).alloc (Nat.le_refl _) _).alloc (by simp) _).alloc (by simp; omega) _
  have hA : ∀ o, HdAt (((w.alloc (.cells #[.int .i64 0] 3)).alloc (.cells #[.int .i64 1, .int .i64 1, .int .i64 0, .int .i64 0, .int .u64 5, .int .i64 0, .int .i64 0, .int .i64 0, .int .i64 0, .int .u64 0] 59)).alloc o) H := fun o => by
    have h3 := three w (.cells #[.int .i64 0] 3) (.cells #[.int .i64 1, .int .i64 1, .int .i64 0, .int .i64 0, .int .u64 5, .int .i64 0, .int .i64 0, .int .i64 0, .int .i64 0, .int .u64 0] 59) o
    have hz : (((w.alloc (.cells #[.int .i64 0] 3)).alloc (.cells #[.int .i64 1, .int .i64 1, .int .i64 0, .int .i64 0, .int .u64 5, .int .i64 0, .int .i64 0, .int .i64 0, .int .i64 0, .int .u64 0] 59)).alloc o).heap.size = w.heap.size + 3 := by simp
    generalize ((w.alloc (.cells #[.int .i64 0] 3)).alloc (.cells #[.int .i64 1, .int .i64 1, .int .i64 0, .int .i64 0, .int .u64 5, .int .i64 0, .int .i64 0, .int .i64 0, .int .i64 0, .int .u64 0] 59)).alloc o = w1 at *
    rw [hH]
    refine ⟨⟨BySl.nil, ⟨rfl, Nat.le_refl _, by simp only [maxLen]; omega, by simp, fun _ => ⟨w.heap.size, 0, rfl, by omega, fun i hi => ?_⟩⟩, ⟨rfl, Nat.le_refl _, by simp only [maxLen]; omega, by simp, fun i => ?_, fun _ => ⟨w.heap.size + 1, 0, rfl, by omega, fun i hi => ?_⟩⟩⟩, rfl, rfl, rfl, BySl.nil⟩
    · have hi : i < 1 := hi
      obtain rfl : i = 0 := by omega
      exact row_cell h3.1 0
    · show 0 ≤ (exM.cs.getD i Im.z5).m ∧ (exM.cs.getD i Im.z5).m < 18446744073709551616
      match i with
      | 0 | 1 => decide
      | i + 2 => simp [exM, Im.z5]
    · match i, hi with
      | 0, _ => exact ⟨row_cell h3.2.1 0, row_cell h3.2.1 1, row_cell h3.2.1 2, row_cell h3.2.1 3, row_cell h3.2.1 4⟩
      | 1, _ => exact ⟨row_cell h3.2.1 5, row_cell h3.2.1 6, row_cell h3.2.1 7, row_cell h3.2.1 8, row_cell h3.2.1 9⟩
  have hrun : ∀ W, Ops W → HdAt W H → Calls Tryd.prog 12 #[.agg #[.int .i64 0, .int .i64 0, .int .i64 0, .slice none 0 0, .slice (some ⟨w.heap.size, 0, none⟩) 1 1, .slice (some ⟨w.heap.size + 1, 0, none⟩) 2 2], .slice none 0 0, .int .i64 9] W (RunA ([0, 1], 1, [0, 5, 0, 0, 0, 0, 0, 0], [], 0) W) := fun W h1 h2 => by
    have := run_any H 9 W h1 h2
    rw [hH] at this
    rwa [exM9] at this
  have hrch : ∀ W, Ops W → HdAt W H → Calls Tryd.prog 14 #[.agg #[.int .i64 0, .int .i64 0, .int .i64 0, .slice none 0 0, .slice (some ⟨w.heap.size, 0, none⟩) 1 1, .slice (some ⟨w.heap.size + 1, 0, none⟩) 2 2], .slice none 0 0, .int .i64 1, .int .i64 1] W fun e w' => e = .returned (.tuple #[.int .i64 1, .bool true]) ∧ Below W.heap.size W w' := fun W h1 h2 => by
    have := reach_any' H 1 1 W h1 h2
    rw [hH] at this
    rwa [exN, exB2] at this
  have HO := Lib.hid ho
  have HI := Lib.hid hI
  have HAA := Lib.hid hA
  have HRUN := Lib.hid hrun
  have HRCH := Lib.hid hrch
  clear ho hI hA hrun hrch hH
  go_enter Tryd.func10, Tryd.ntmps10
  go_wp2_with fail
  refine (HRUN.out _ (HO.out.below (HI.out _) hp) (HAA.out _)).mono ?_
  rintro e v ⟨pA, pcap, mA, mcap, rfl, hin, hby, hbv⟩
  have hBv := (HI.out _).trans (hbv.mono (HI.out _).size)
  have hHv := (HAA.out _).below hbv
  have q0 : v.cell? ⟨w.heap.size + 1 + 1, 0, none⟩ = some (.int .i64 0) := cells_below hbv (row_cell (three _ _ _ _).2.2 0) (by simp)
  have q1 : v.cell? ⟨w.heap.size + 1 + 1, 1, none⟩ = some (.int .i64 0) := cells_below hbv (row_cell (three _ _ _ _).2.2 1) (by simp)
  have q2 : v.cell? ⟨w.heap.size + 1 + 1, 2, none⟩ = some (.int .i64 0) := cells_below hbv (row_cell (three _ _ _ _).2.2 2) (by simp)
  have q3 : v.cell? ⟨w.heap.size + 1 + 1, 3, none⟩ = some (.slice none 0 0) := cells_below hbv (row_cell (three _ _ _ _).2.2 3) (by simp)
  have q4 : v.cell? ⟨w.heap.size + 1 + 1, 4, none⟩ = some (.slice (some ⟨w.heap.size, 0, none⟩) 1 1) := cells_below hbv (row_cell (three _ _ _ _).2.2 4) (by simp)
  have q5 : v.cell? ⟨w.heap.size + 1 + 1, 5, none⟩ = some (.slice (some ⟨w.heap.size + 1, 0, none⟩) 2 2) := cells_below hbv (row_cell (three _ _ _ _).2.2 5) (by simp)
  obtain ⟨b, o, rfl, hb, hx⟩ := hin.mem (by show 0 < 2; omega)
  have hx1 := hx 1 (by show 1 < 2; omega)
  simp at hx1
  simp only [trC, List.getD_cons_zero, List.getD_cons_succ, List.length_cons, List.length_nil]
  have hvs : w.heap.size + 1 + 1 < v.heap.size := by have := hbv.size; simp at this; omega
  have hne : w.heap.size + 1 + 1 ≠ v.heap.size := by omega
  have HX1 := Lib.hid hx1
  have HB := Lib.hid hb
  have HBV := Lib.hid hBv
  have HHV := Lib.hid hHv
  have hbo : ∀ x, Below v.heap.size v (v.alloc x) := fun x => Below.box v x
  have HBO := Lib.hid hbo
  clear hin hby hbv hBv hHv hb hx hx1 hbo
  go_wp2_with fail
  refine (HRCH.out _ (HO.out.below (HBV.out.trans ((HBO.out _).mono HBV.out.size)) hp) (HHV.out.below (HBO.out _))).mono ?_
  rintro e v2 ⟨rfl, hb2⟩
  have hb3 := (HBO.out _).trans (hb2.mono (by simp))
  have t0 := cells_below hb2 (row_cell (heap_newM rfl) 0) (by simp)
  have t1 := cells_below hb2 (row_cell (heap_newM rfl) 1) (by simp)
  have t3 := cells_below hb2 (row_cell (heap_newM rfl) 3) (by simp)
  simp at t0 t1 t3
  have hx1 := (hb3.cell (p := ⟨b, o + 1, none⟩) HB.out).trans HX1.out
  have HB3 := Lib.hid (HBV.out.trans (hb3.mono HBV.out.size))
  clear hb2 hb3 q0 q1 q2 q3 q4 q5
  go_wp2
  go_ret
  exact ⟨rfl, HB3.out⟩
end Go.Proofs.YtfhnigfghfmolaaDoor
namespace Go.Proofs.YtfhnigfghfmolaaDoor
set_option maxRecDepth 100000
open Go.RowKit Go.ChangeShapes Go.WideShapes Go.ChangeAt Go.Deep

section
variable {H : Type} {enc : TypeId × Value → H} {W : World} {b : Nat} {sp : Nat → Bool} {hd : Bool}
theorem bytes_of_trod {v : Value} {n : Nat} {y : DataW H × List MemPlace} (h : DataW.trod enc Tryd.prog W b sp hd n 22 [v] = some y) (hsp : ∀ k, sp k = true) : ∃ A len cap xs, v = .slice A len cap ∧ BySl W A len cap xs := by
  have h' := h
  rcases open_ints Tryd.underlying22 Tryd.underlying5 (by kernel_rfl) h with ⟨hcs, _⟩ | ⟨x, l, c, zs, hcs, _, hl, hm, hz, _, hcell, hwz⟩
  · simp only [List.cons.injEq, and_true] at hcs
    subst hcs
    exact ⟨none, 0, 0, [], rfl, BySl.nil⟩
  · simp only [List.cons.injEq, and_true] at hcs
    subst hcs
    have hzl : zs.length = c := by simpa [hsp] using hz
    refine ⟨some x, l, c, zs.take l, rfl, by rw [List.length_take]; omega, hl, hm, fun e => by simp at e, isB_of (fun n hn => byte_of_wf (hwz n (List.mem_of_mem_take hn))), fun h0 => ?_⟩
    obtain ⟨b', o, rfl, hc⟩ := ints_at hcell (by omega)
    have hx : Byts W ⟨b', o, Option.none⟩ (zs.take l) := fun i hi => by
      rw [List.length_take] at hi
      rw [add_at, hc i (by omega), List.getD_eq_getElem?_getD, List.getD_eq_getElem?_getD, List.getElem?_take_of_lt (by omega)]
    exact ⟨b', o, rfl, hx.lt (by rw [List.length_take]; omega), hx⟩
theorem ints_of_trod {v : Value} {n : Nat} {y : DataW H × List MemPlace} (h : DataW.trod enc Tryd.prog W b sp hd n 23 [v] = some y) (hsp : ∀ k, sp k = true) : ∃ A len cap xs, v = .slice A len cap ∧ InSl W A len cap xs := by
  rcases open_ints Tryd.underlying23 Tryd.underlying3 (by kernel_rfl) h with ⟨hcs, _⟩ | ⟨x, l, c, zs, hcs, _, hl, hm, hz, _, hcell, hwz⟩
  · simp only [List.cons.injEq, and_true] at hcs
    subst hcs
    exact ⟨none, 0, 0, [], rfl, rfl, Nat.le_refl _, Nat.zero_le _, fun _ => rfl, fun h0 => absurd h0 (by omega)⟩
  · simp only [List.cons.injEq, and_true] at hcs
    subst hcs
    have hzl : zs.length = c := by simpa [hsp] using hz
    refine ⟨some x, l, c, zs.take l, rfl, by rw [List.length_take]; omega, hl, hm, fun e => by simp at e, fun h0 => ?_⟩
    obtain ⟨b', o, rfl, hc⟩ := ints_at hcell (by omega)
    refine ⟨b', o, rfl, ?_, fun i hi => ?_⟩
    · have h1 := hc 0 (by omega)
      rcases Nat.lt_or_ge b' W.heap.size with h2 | h2
      · exact h2
      · simp [World.cell?, Array.getElem?_eq_none h2] at h1
    · rw [hc i (by omega), List.getD_eq_getElem?_getD, List.getD_eq_getElem?_getD, List.getElem?_take_of_lt (by omega)]
theorem cells43 : Tryd.prog.cellsOf 59 = 5 := by kernel_rfl
theorem cells3 : Tryd.prog.cellsOf 3 = 1 := by kernel_rfl
theorem cells41 : Tryd.prog.cellsOf 29 = 1 := by kernel_rfl
theorem ins_of_trod {l : List Value} {n : Nat} {y : DataW H × List MemPlace} (h : DataW.trod enc Tryd.prog W b sp hd n 59 l = some y) :
    ∃ i : Im.I5, l = [.int .i64 i.op, .int .i64 i.a, .int .i64 i.b, .int .i64 i.c, .int .u64 i.m] ∧ 0 ≤ i.m ∧ i.m < 18446744073709551616 := by
  obtain ⟨ys, k, _, _, hl, hy, hf⟩ := DataW.trod_struct Tryd.underlying59 h
  rw [cells43] at hl
  have g0 := hf 0 _ rfl
  have g1 := hf 1 _ rfl
  have g2 := hf 2 _ rfl
  have g3 := hf 3 _ rfl
  have g4 := hf 4 _ rfl
  match l, hl with
  | [c0, c1, c2, c3, c4], _ =>
    match ys, hy with
    | [y0, y1, y2, y3, y4], _ =>
      simp at g0 g1 g2 g3 g4
      obtain ⟨n0, e0, _, _⟩ := DataW.trod_int Tryd.underlying3 g0
      obtain ⟨n1, e1, _, _⟩ := DataW.trod_int Tryd.underlying3 g1
      obtain ⟨n2, e2, _, _⟩ := DataW.trod_int Tryd.underlying3 g2
      obtain ⟨n3, e3, _, _⟩ := DataW.trod_int Tryd.underlying3 g3
      obtain ⟨n4, e4, _, w4⟩ := DataW.trod_int Tryd.underlying29 g4
      simp [cells3, cells41] at e0 e1 e2 e3 e4
      subst e0 e1 e2 e3 e4
      have w4' : 0 ≤ n4 ∧ n4 ≤ 18446744073709551615 := by simpa [Lit.wf, IntKind.min, IntKind.max, IntKind.signed, IntKind.bits] using w4
      exact ⟨⟨n0, n1, n2, n3, n4⟩, rfl, by simp only; omega, by simp only; omega⟩
theorem list_of {α : Type} (z : α) {n : Nat} {Q : Nat → α → Prop} (h : ∀ i, i < n → ∃ x, Q i x) : ∃ l : List α, l.length = n ∧ ∀ i, i < n → Q i (l.getD i z) := by
  induction n with
  | zero => exact ⟨[], rfl, fun i hi => absurd hi (by omega)⟩
  | succ n ih =>
    obtain ⟨l, hl, hq⟩ := ih fun i hi => h i (by omega)
    obtain ⟨x, hx⟩ := h n (by omega)
    refine ⟨l ++ [x], by simp [hl], fun i hi => ?_⟩
    rcases Nat.lt_or_ge i n with h1 | h1
    · rw [List.getD_eq_getElem?_getD, List.getElem?_append_left (by omega), ← List.getD_eq_getElem?_getD]
      exact hq i h1
    · obtain rfl : i = n := by omega
      rw [List.getD_eq_getElem?_getD, List.getElem?_append_right (by omega), hl, Nat.sub_self]
      exact hx
theorem code_of_trod {v : Value} {n : Nat} {y : DataW H × List MemPlace} (h : DataW.trod enc Tryd.prog W b sp hd n 24 [v] = some y) (hsp : ∀ k, sp k = true) : ∃ A len cap cs, v = .slice A len cap ∧ CoSl W A len cap cs := by
  rcases open_slice Tryd.underlying24 h with ⟨hcs, _⟩ | ⟨a, len, cap, m, k, D, Pl, hcs, _, hl, hm, hmm, _, hi⟩
  · simp only [List.cons.injEq, and_true] at hcs
    subst hcs
    exact ⟨none, 0, 0, [], rfl, rfl, Nat.le_refl _, Nat.zero_le _, fun _ => rfl, fun i => ⟨by simp [Im.z5], by simp [Im.z5]⟩, fun h0 => absurd h0 (by omega)⟩
  · simp only [List.cons.injEq, and_true] at hcs
    subst hcs
    have hmc : m = cap := by rw [hmm, hsp]; rfl
    have hel : ∀ i, i < len → ∃ x : Im.I5, (∀ j, j < 5 → W.cell? ((a.add (i * 5)).add j) = [Value.int .i64 x.op, .int .i64 x.a, .int .i64 x.b, .int .i64 x.c, .int .u64 x.m][j]?) ∧ 0 ≤ x.m ∧ x.m < 18446744073709551616 := fun i hlt => by
      obtain ⟨cs', hc, ht⟩ := hi i (by omega)
      rw [cells43] at hc
      obtain ⟨_, _, hat⟩ := World.cells?_some hc
      obtain ⟨x, rfl, h1, h2⟩ := ins_of_trod ht
      exact ⟨x, fun j hj => hat j hj, h1, h2⟩
    obtain ⟨cs, hcl, hq⟩ := list_of Im.z5 hel
    refine ⟨some a, len, cap, cs, rfl, hcl, hl, hm, fun e => by simp at e, fun i => ?_, fun h0 => ?_⟩
    · rcases Nat.lt_or_ge i len with h1 | h1
      · exact (hq i h1).2
      · rw [Im.getD_past (by omega)]
        exact ⟨by simp [Im.z5], by simp [Im.z5]⟩
    · obtain ⟨b', o, spot⟩ := a
      have h00 := (hq 0 h0).1 0 (by omega)
      have hspot : spot = none := by
        have h1 : W.cell? (⟨b', o, spot⟩ : Addr) = some (.int .i64 (cs.getD 0 Im.z5).op) := by simpa [Addr.add] using h00
        simpa using World.cell?_spot h1
      subst hspot
      refine ⟨b', o, rfl, ?_, fun i hlt => ?_⟩
      · rcases Nat.lt_or_ge b' W.heap.size with h2 | h2
        · exact h2
        · simp [World.cell?, Addr.add, Array.getElem?_eq_none h2] at h00
      · have e : ∀ j, j < 5 → W.cell? ⟨b', o + i * 5 + j, none⟩ = [Value.int .i64 (cs.getD i Im.z5).op, .int .i64 (cs.getD i Im.z5).a, .int .i64 (cs.getD i Im.z5).b, .int .i64 (cs.getD i Im.z5).c, .int .u64 (cs.getD i Im.z5).m][j]? := fun j hj => by
          have := (hq i hlt).1 j hj
          rwa [add_at, add_at] at this
        exact ⟨e 0 (by omega), e 1 (by omega), e 2 (by omega), e 3 (by omega), e 4 (by omega)⟩
theorem cells26 : Tryd.prog.cellsOf 26 = 6 := by kernel_rfl
theorem cells22 : Tryd.prog.cellsOf 22 = 1 := by kernel_rfl
theorem cells23 : Tryd.prog.cellsOf 23 = 1 := by kernel_rfl
theorem cells24 : Tryd.prog.cellsOf 24 = 1 := by kernel_rfl
/-- An image that comes in. -/
theorem open_img {base : Nat} {v : Value} {d : DataW H} {p : List MemPlace} (hv : Value.okWide Tryd.prog W .any base 26 v) (h : DataW.Trod enc Tryd.prog W b sp hd 26 v d p) (hsp : ∀ k, sp k = true) :
    ∃ (mem stk inp : Int) (Ad : Option Addr) (ld cd : Nat) (Af : Option Addr) (lf cf : Nat) (Ac : Option Addr) (lc cc : Nat) (P : Im.Pic), v = .agg #[.int .i64 mem, .int .i64 stk, .int .i64 inp, .slice Ad ld cd, .slice Af lf cf, .slice Ac lc cc] ∧ ImAt W Ad ld cd Af lf cf Ac lc cc P ∧ P.mem = mem ∧ P.stk = stk ∧ P.inp = inp := by
  obtain ⟨cs, rfl, hsz⟩ := okWide_struct Tryd.underlying26 hv
  obtain ⟨l⟩ := cs
  match l, hsz.trans cells26 with
  | [v0, v1, v2, v3, v4, v5], _ =>
    obtain ⟨fuel, hf⟩ := h
    obtain ⟨xs, n, _, hx, _, hlen, hg⟩ := DataW.trod_struct Tryd.underlying26 hf
    have g0 := hg 0 _ rfl
    have g1 := hg 1 _ rfl
    have g2 := hg 2 _ rfl
    have g3 := hg 3 _ rfl
    have g4 := hg 4 _ rfl
    have g5 := hg 5 _ rfl
    match xs, hlen with
    | [y0, y1, y2, y3, y4, y5], _ =>
      simp [Value.cells, cells3, cells22, cells23, cells24] at g0 g1 g2 g3 g4 g5
      obtain ⟨n0, e0, _, _⟩ := DataW.trod_int Tryd.underlying3 g0
      obtain ⟨n1, e1, _, _⟩ := DataW.trod_int Tryd.underlying3 g1
      obtain ⟨n2, e2, _, _⟩ := DataW.trod_int Tryd.underlying3 g2
      simp at e0 e1 e2
      subst e0 e1 e2
      obtain ⟨Ad, ld, cd, ds, rfl, hd'⟩ := bytes_of_trod g3 hsp
      obtain ⟨Af, lf, cf, fs, rfl, hf'⟩ := ints_of_trod g4 hsp
      obtain ⟨Ac, lc, cc, cs, rfl, hc'⟩ := code_of_trod g5 hsp
      exact ⟨n0, n1, n2, Ad, ld, cd, Af, lf, cf, Ac, lc, cc, ⟨n0, n1, n2, ds, fs, cs⟩, rfl, ⟨hd', hf', hc'⟩, rfl, rfl, rfl⟩
end
end Go.Proofs.YtfhnigfghfmolaaDoor
