/-
  The contract of Run, of an image that is right and an input that isn't too long.
-/
import Derived.Test.YthkhadbeomkihaaDoorMc15
namespace Go.Proofs.YthkhadbeomkihaaDoor
set_option maxRecDepth 100000
open Go.RowKit

namespace Mc
theorem go_next {p : Im.Pic} {xs : List Int} {n : Nat} {s : St} {path : List Int} (h : (step p xs s).2 = 0) : go p xs (n + 1) s path = go p xs n (step p xs s).1 (path ++ [(step p xs s).1.pl]) := by
  rw [go, if_pos h]
theorem go_stop {p : Im.Pic} {xs : List Int} {n : Nat} {s : St} {path : List Int} (h : (step p xs s).2 ≠ 0) : go p xs (n + 1) s path = (path, s, (step p xs s).2) := by
  rw [go, if_neg h]
theorem step_stay {p : Im.Pic} {xs : List Int} {s : St} (h : (step p xs s).2 ≠ 0) : (step p xs s).1 = s := by
  unfold step at *
  split
  · rename_i h0; exact absurd (by rw [if_pos h0]) h
  · rfl
end Mc

/-- A run under way: the runner, the path, and what is left of it. -/
structure Rg (H : Hd) (w0 : World) (g : Nat) (M : Value) (N q : Nat) (R : List Int × Mc.St × Int) (PV : Value) (wr : World) : Prop where
  hq : q ≤ N
  ex : ∃ s nx O path, Rn H w0 g M O s nx wr ∧ Mc.Ok H.p s ∧ Mc.go H.p H.xs (N - q) s path = R ∧ wr.ownsRow w0.heap.size 3 1 PV (q + 1) (path.map (Value.int .i64)) ∧ path.length = q + 1 ∧
    PV.ownBlock ≠ some g ∧ (∀ k, PV.ownBlock = some k → M.ownBlock ≠ some k ∧ O.ownBlock ≠ some k)

theorem Rn.grown {H : Hd} {w0 : World} {g : Nat} {M O : Value} {s : Mc.St} {nx : Int} {w w' : World} {row : Option Nat} (h : Rn H w0 g M O s nx w) (hg : w.grownBy w' row) (hb : ∀ k, row = some k → w0.heap.size ≤ k) (h1 : row ≠ some g) (h2 : ∀ k, row = some k → M.ownBlock ≠ some k ∧ O.ownBlock ≠ some k) : Rn H w0 g M O s nx w' := by
  obtain ⟨cs, r1, r2⟩ := h.row
  exact ⟨h.bel.grown hg h.bel.size hb, ⟨cs, r1.grown hg h1, r2⟩, ownsRow.blk h.mo fun k hk => hg.block k (h.mo.lt k hk).2 (fun e => (h2 k e.symm).1 hk), ownsRow.blk h.oo fun k hk => hg.block k (h.oo.lt k hk).2 (fun e => (h2 k e.symm).2 hk), h.gb, h.mg, h.og, h.ne⟩
/-- append of a slice onto a row of the call's own: what else stays. -/
theorem wpList_apM {P : Program} {w : World} {ops : Array Oper} {rest : List Oper} {o : Oper} {a : Act} {Q : Exit → Act → World → Prop} (hgd : o.guard = none) (s x : Operand) (t : TypeId)
    (ho : o.op = .call { callee := .builtin .append, args := #[s, x], argTypes := #[t, t] })
    (base : Nat) (e : TypeId) (i : TypeInfo) (z : Value) (bytes : Nat) (ht : P.underlying t = some (.slice e)) (hi : P.info? e = some i) (hz : i.zero = some z)
    (hsize : i.size = 1) (hby : i.bytes = bytes) (hzs : z.cells.size = 1)
    (v : Value) (n : Nat) (xs : List Value) (hs : a.eval s = v) (hown : w.ownsRow base e 1 v n xs)
    (ad : Addr) (m c : Nat) (news : List Value) (hx : a.eval x = .slice (some ad) m c) (hr : Sl w (some ad) m news) (h1 : ∀ u ∈ news, u.oneCell' = true)
    (h63 : n + m ≤ maxLen) (hbytes : (n + m) * bytes ≤ 140737488355328) (hbase : base ≤ w.heap.size)
    (h : ∀ v' w', w'.ownsRow base e 1 v' (n + m) (xs ++ news) → w.grownBy w' v.ownBlock → (v'.ownBlock = v.ownBlock ∨ v'.ownBlock = some w.heap.size) → wpList P ops Q rest (a.put o.dst v') w') : wpList P ops Q (o :: rest) a w := by
  have hcells : ∀ j u, news[j]? = some u → w.cell? (ad.add j) = some u := fun j u hu => by
    rcases Nat.eq_zero_or_pos m with h0 | h0
    · have hn : news = [] := List.eq_nil_of_length_eq_zero (hr.1.trans h0)
      subst hn
      simp at hu
    · obtain ⟨b, o', he, _, hc⟩ := hr.2 h0
      injection he with he
      subst he
      exact hc j u hu
  obtain ⟨v', w', hrun, h2, h3, _, h5⟩ := run_append_own_at (P := P) w base t o.type e i z 1 bytes ht hi hz hsize hby hzs (by omega) v n xs hown ad m c news (by rw [hr.1]; omega) hcells h1 h63 hbytes hbase
  refine wpList_plain hgd fun K hK => ?_
  unfold Oper.wp execOp
  simp only [ho, resolve, invoke, builtin, Sem.run_bind, Sem.run_pure, Result.andThen_ok, List.map_toArray, List.map_cons, List.map_nil, hs, hx, hrun]
  exact hK _ _ (h v' w' h2 h3 h5)

set_option maxRecDepth 20000 in
set_option maxHeartbeats 12800000 in
theorem run_right (H : Hd) (steps : Int) (w : World) (ho : Ops w) (HA : HdAt w H) (hc : Mc.R H.p) (hl : (H.xs.length : Int) ≤ H.p.inp) :
    Calls Tryd.prog 12 #[.agg #[.int .i64 H.mem, .int .i64 H.stk, .int .i64 H.inp, .slice H.Ad H.ld H.cd, .slice H.Af H.lf H.cf, .slice H.Ac H.lc H.cc], .slice H.Ai H.li H.ci, .int .i64 steps] w (RunP (Mc.answer H.p H.xs steps) w) := by
  have hCn := hc.cnt
  have ea : Mc.answer H.p H.xs steps = ((Mc.run H.p H.xs steps).1, (Mc.run H.p H.xs steps).2.2, (Mc.run H.p H.xs steps).2.1.rg, (Mc.run H.p H.xs steps).2.1.mm, 0) := by unfold Mc.answer; rw [if_neg (show ¬ Im.chk H.p ≠ 0 from fun h => h hc), if_neg (by omega)]
  rw [ea]
  have hp := ho.pos
  have hW : Mc.Wc H.p := HA.img.c.rng
  have hen : ∀ W, Below w.heap.size w W → Calls Tryd.prog 28 #[.agg #[.int .i64 H.mem, .int .i64 H.stk, .int .i64 H.inp, .slice H.Ad H.ld H.cd, .slice H.Af H.lf H.cf, .slice H.Ac H.lc H.cc]] W fun e w' => ∃ A n cap, e = .returned (.tuple #[.slice A n cap, .int .i64 0]) ∧ BySl w' A n cap (Im.out H.p) ∧ Below W.heap.size W w' := fun W hW => by
    have := encode_any _ _ _ _ _ _ _ _ _ _ _ _ H.p W (ho.below hW hp) (HA.img.below hW) HA.e0 HA.e1 HA.e2
    rwa [show Im.chk H.p = 0 from hc] at this
  have hlen := HA.inp.hlen
  have hin : (H.li : Int) ≤ H.inp := by rw [← HA.e2, ← hlen]; exact hl
  have hlm := Nat.le_trans HA.inp.hle HA.inp.hcap
  have hok0 := Mc.mem0_ok hc HA.img.d.isB
  have hxs := HA.inp.isB
  have hxl : H.xs.length < 1000 := by have := hCn.2.2.1; omega
  have hm0 : 0 ≤ H.mem ∧ H.mem ≤ 64 ∧ (H.ld : Int) ≤ H.mem := by have := hCn.1; have := hCn.2.2.2.1; have := HA.e0; have := HA.img.d.hlen; omega
  have hN : ((Mc.most steps : Nat) : Int) = max (min steps 4096) 0 := by unfold Mc.most; omega
  obtain ⟨T, hT⟩ : ∃ T, T = min steps 4096 := ⟨_, rfl⟩
  have hmin : ∀ ts t W, (Builtin.min_ ts t #[.int .i64 steps, .int .i64 4096]).run Tryd.prog W = .ok (.int .i64 T) W := fun ts t W => by
    have : T = if 4096 < steps then 4096 else steps := by rw [hT]; split <;> omega
    rw [this]
    simp [Builtin.min_, Builtin.min2]
  rw [← hT] at hN
  have hTT : T ≤ 4096 := by omega
  have HTT := Lib.hid hTT
  clear hT hTT
  have hRun : Mc.run H.p H.xs steps = Mc.go H.p H.xs (Mc.most steps) (Mc.start H.p) [0] := rfl
  generalize Mc.run H.p H.xs steps = R at *
  generalize Mc.most steps = N at *
  unfold maxLen at hlm
  have HEN := Lib.hid hen
  have HHA := Lib.hid HA
  have HC := Lib.hid hc
  have HRUN := Lib.hid hRun
  have HOK0 := Lib.hid hok0
  have HXS := Lib.hid (And.intro hxs hxl)
  have HM0 := Lib.hid hm0
  have HWC := Lib.hid hW
  have HN := Lib.hid hN
  clear hen ho HA hc ea hl hlen hRun hok0 hxs hxl hm0 hW hCn hN
  go_enter Tryd.func12, Tryd.ntmps12
  go_wp2_with fail
  have hB : Below w.heap.size w ((w.alloc (.cells #[.int .i64 H.mem, .int .i64 H.stk, .int .i64 H.inp, .slice H.Ad H.ld H.cd, .slice H.Af H.lf H.cf, .slice H.Ac H.lc H.cc] 26)).alloc (.cells #[.slice none 0 0, .int .i64 0, .int .u64 0, .int .u64 0, .int .u64 0, .int .u64 0, .int .u64 0, .int .u64 0, .int .u64 0, .int .u64 0, .slice none 0 0] 32)) := ((Below.refl _ _).alloc (Nat.le_refl _) _).alloc (by simp) _
  have h1 : ((w.alloc (.cells #[.int .i64 H.mem, .int .i64 H.stk, .int .i64 H.inp, .slice H.Ad H.ld H.cd, .slice H.Af H.lf H.cf, .slice H.Ac H.lc H.cc] 26)).alloc (.cells #[.slice none 0 0, .int .i64 0, .int .u64 0, .int .u64 0, .int .u64 0, .int .u64 0, .int .u64 0, .int .u64 0, .int .u64 0, .int .u64 0, .slice none 0 0] 32)).heap[w.heap.size]? = some (.cells #[.int .i64 H.mem, .int .i64 H.stk, .int .i64 H.inp, .slice H.Ad H.ld H.cd, .slice H.Af H.lf H.cf, .slice H.Ac H.lc H.cc] 26 (0, 0)) := ((Below.box _ _).block _ (by simp)).trans (heap_newM rfl)
  have h2 : ((w.alloc (.cells #[.int .i64 H.mem, .int .i64 H.stk, .int .i64 H.inp, .slice H.Ad H.ld H.cd, .slice H.Af H.lf H.cf, .slice H.Ac H.lc H.cc] 26)).alloc (.cells #[.slice none 0 0, .int .i64 0, .int .u64 0, .int .u64 0, .int .u64 0, .int .u64 0, .int .u64 0, .int .u64 0, .int .u64 0, .int .u64 0, .slice none 0 0] 32)).heap[w.heap.size + 1]? = some (.cells #[.slice none 0 0, .int .i64 0, .int .u64 0, .int .u64 0, .int .u64 0, .int .u64 0, .int .u64 0, .int .u64 0, .int .u64 0, .int .u64 0, .slice none 0 0] 32 (0, 0)) := heap_newM (by simp)
  have hz : ((w.alloc (.cells #[.int .i64 H.mem, .int .i64 H.stk, .int .i64 H.inp, .slice H.Ad H.ld H.cd, .slice H.Af H.lf H.cf, .slice H.Ac H.lc H.cc] 26)).alloc (.cells #[.slice none 0 0, .int .i64 0, .int .u64 0, .int .u64 0, .int .u64 0, .int .u64 0, .int .u64 0, .int .u64 0, .int .u64 0, .int .u64 0, .slice none 0 0] 32)).heap.size = w.heap.size + 2 := by simp
  generalize (w.alloc (.cells #[.int .i64 H.mem, .int .i64 H.stk, .int .i64 H.inp, .slice H.Ad H.ld H.cd, .slice H.Af H.lf H.cf, .slice H.Ac H.lc H.cc] 26)).alloc (.cells #[.slice none 0 0, .int .i64 0, .int .u64 0, .int .u64 0, .int .u64 0, .int .u64 0, .int .u64 0, .int .u64 0, .int .u64 0, .int .u64 0, .slice none 0 0] 32) = w1 at *
  refine (HEN.out _ hB).mono ?_
  rintro e v ⟨A, n, cap, rfl, hby, hbv⟩
  have hB2 := hB.trans (hbv.mono hB.size)
  have hv1 := (hbv.block _ (by omega)).trans h1
  have hv2 := (hbv.block _ (by omega)).trans h2
  have hvz : w.heap.size + 2 ≤ v.heap.size := by have := hbv.size; omega
  have HB2 := Lib.hid hB2
  have HV1 := Lib.hid hv1
  have HV2 := Lib.hid hv2
  have HVZ := Lib.hid hvz
  clear hB h1 h2 hz hby hbv hB2 hv1 hv2 hvz
  have q2 := row_cell HV1.out 2
  simp at q2
  go_wp2_with fail
  have hHA : HdAt v H := HHA.out.below HB2.out
  have HHV := Lib.hid hHA
  clear hHA q2
  refine wp_region_held_drew (S := fun W => Below v.heap.size v W) (by kernel_rfl) (Below.refl _ _).drew (fun hHeld => ?_)
  refine wpAnyH_take (i := 0) (v := .agg #[.int .i64 H.mem, .int .i64 H.stk, .int .i64 H.inp, .slice H.Ad H.ld H.cd, .slice H.Af H.lf H.cf, .slice H.Ac H.lc H.cc]) rfl (by kernel_rfl) (by kernel_rfl) (by kernel_rfl) (fun _ _ _ h => h) (Or.inl ⟨by rfl, fun w9 hSw => ?_⟩) hHeld ?_
  · (try dsimp only at hSw)
    have q0 := cells_below hSw (row_cell HV1.out 0) (by have := HVZ.out; omega)
    have q1 := cells_below hSw (row_cell HV1.out 1) (by have := HVZ.out; omega)
    have q2 := cells_below hSw (row_cell HV1.out 2) (by have := HVZ.out; omega)
    have q3 := cells_below hSw (row_cell HV1.out 3) (by have := HVZ.out; omega)
    have q4 := cells_below hSw (row_cell HV1.out 4) (by have := HVZ.out; omega)
    have q5 := cells_below hSw (row_cell HV1.out 5) (by have := HVZ.out; omega)
    simp at q0 q1 q2 q3 q4 q5
    go_simp
  try simp only [List.getElem_toArray, List.getElem_cons_succ, List.getElem_cons_zero, Act.put, List.setIfInBounds_toArray, List.set_cons_zero, List.set_cons_succ]
  refine wpAnyH_take (i := 1) (v := .slice H.Ai H.li H.ci) rfl (by kernel_rfl) (by kernel_rfl) (by kernel_rfl) (fun _ _ _ h => h) (Or.inl ⟨by rfl, fun w9 hSw => ?_⟩) hHeld ?_
  · (try dsimp only at hSw)
    go_simp
  try simp only [List.getElem_toArray, List.getElem_cons_succ, List.getElem_cons_zero, Act.put, List.setIfInBounds_toArray, List.set_cons_zero, List.set_cons_succ]
  refine wpAnyH_take (i := 2) (v := .agg #[.int .i64 H.mem, .int .i64 H.stk, .int .i64 H.inp, .slice H.Ad H.ld H.cd, .slice H.Af H.lf H.cf, .slice H.Ac H.lc H.cc]) rfl (by kernel_rfl) (by kernel_rfl) (by kernel_rfl) (fun _ _ _ h => h) (Or.inl ⟨by rfl, fun w9 hSw => ?_⟩) hHeld ?_
  · (try dsimp only at hSw)
    have q0 := cells_below hSw (row_cell HV1.out 0) (by have := HVZ.out; omega)
    have q1 := cells_below hSw (row_cell HV1.out 1) (by have := HVZ.out; omega)
    have q2 := cells_below hSw (row_cell HV1.out 2) (by have := HVZ.out; omega)
    have q3 := cells_below hSw (row_cell HV1.out 3) (by have := HVZ.out; omega)
    have q4 := cells_below hSw (row_cell HV1.out 4) (by have := HVZ.out; omega)
    have q5 := cells_below hSw (row_cell HV1.out 5) (by have := HVZ.out; omega)
    simp at q0 q1 q2 q3 q4 q5
    go_simp
  try simp only [List.getElem_toArray, List.getElem_cons_succ, List.getElem_cons_zero, Act.put, List.setIfInBounds_toArray, List.set_cons_zero, List.set_cons_succ]
  refine wpAnyH_ready (rs := [3]) (by kernel_rfl) (by simp) ?_
  refine (AllReadyH.cons rfl (fun K hK => ?_) AllReadyH.nil)
  go_simp
  go_at_call 22
  refine (start_any _ _ _ _ _ _ _ _ _ _ _ _ H.p _ (HHV.out.below (Below.refl _ _).drew).img HHV.out.e0 HM0.out.1 HM0.out.2.1 HM0.out.2.2).mono ?_
  rintro e v3 ⟨mb, n, rfl, hmb, hmn, hmem, hb3⟩
  have HMN := Lib.hid hmn
  clear hmn
  have hbs : Below v.heap.size v v3 := (Below.refl _ _).drew.trans hb3
  refine hK.out _ _ hbs (fun hHeld => ?_)
  clear hK K
  try simp only [List.getElem_toArray, List.getElem_cons_succ, List.getElem_cons_zero, Act.put, List.setIfInBounds_toArray, List.set_cons_zero, List.set_cons_succ]
  refine wpAnyH_ready (rs := [4]) (by kernel_rfl) (by simp) ?_
  refine (AllReadyH.cons rfl (fun K hK => ?_) AllReadyH.nil)
  go_simp
  go_at_call 29
  refine (newRunner_any _ _ _ _ _ _ _ _ _ _ _ _ _ _ _ _ _ _ _ _ _ _ _ _ _ _ _).mono ?_
  rintro e v4 ⟨g, rfl, hg, hrb, hb4⟩
  have hbs4 : Below v.heap.size v v4 := hbs.trans (hb4.mono hbs.size)
  refine hK.out _ _ hbs4 (fun hHeld => ?_)
  clear hK K
  try simp only [List.getElem_toArray, List.getElem_cons_succ, List.getElem_cons_zero, Act.put, List.setIfInBounds_toArray, List.set_cons_zero, List.set_cons_succ]
  refine wpAnyH_take (i := 5) (v := .pointer (some ⟨g, 0, none⟩)) rfl (by kernel_rfl) (by kernel_rfl) (by kernel_rfl) (fun _ _ _ h => h) (Or.inl ⟨by rfl, fun w9 hSw => ?_⟩) hHeld ?_
  · (try dsimp only at hSw)
    go_simp
  try simp only [List.getElem_toArray, List.getElem_cons_succ, List.getElem_cons_zero, Act.put, List.setIfInBounds_toArray, List.set_cons_zero, List.set_cons_succ]
  refine wpAnyH_done (by kernel_rfl) ?_ _
  have hst : Mc.start H.p = ⟨0, [0, 0, 0, 0, 0, 0, 0, 0], Mc.mem0 H.p, []⟩ := rfl
  have hmlen : (Mc.mem0 H.p).length = n := by
    have h1 := HOK0.out.ml
    have h2 := HHV.out.e0
    rw [hst] at h1
    simp only at h1
    have := HMN.out
    omega
  have hvz4 := hbs4.size
  have hv3z := hbs.size
  have hmbl : mb < v3.heap.size := (Array.getElem?_eq_some_iff.1 hmem).1
  have hmem4 := (hb4.block mb hmbl).trans hmem
  have hR0 : Rn H v g (.slice (some ⟨mb, 0, none⟩) n n) (.slice none 0 0) (Mc.start H.p) 0 v4 := by
    rw [hst]
    refine ⟨hbs4, ⟨_, hrb, Rc.new H _ _ 0 0 0 0 0 0 0 0 0 _ _⟩, ?_, World.ownsRow_nil _ _ _ _, by omega, ?_, by simp [Value.ownBlock], by simp [Value.ownBlock]⟩
    · rw [hmlen]
      exact ⟨by simp [hmlen], .inr ⟨mb, n, _, rfl, by simpa using hmb, hmem4, Nat.le_refl _, by have := HM0.out; have := HMN.out; unfold maxLen; omega, by simp [hmlen], by rw [Nat.mul_one, ← hmlen, ← List.length_map (f := Value.int .u8)]; exact List.take_length⟩⟩
    · simp [Value.ownBlock]; omega
  have HR0 := Lib.hid hR0
  have h7 := (hrb.c 7)
  simp at h7
  have HMB := Lib.hid (And.intro hmbl hmb)
  clear hst hmlen hvz4 hv3z hmem4 hR0 hrb hHeld hbs hb3 hb4 hmem hmb hmbl hg
  have HB4 := Lib.hid hbs4
  clear hbs4
  go_wp2
  have hpo0 : (v4.alloc (.cells #[.int .i64 0] 3)).ownsRow v.heap.size 3 1 (.slice (some ⟨v4.heap.size, 0, none⟩) 1 1) 1 ([(0 : Int)].map (Value.int .i64)) := ⟨rfl, .inr ⟨v4.heap.size, 1, _, rfl, HB4.out.size, heap_newM rfl, Nat.le_refl _, by unfold maxLen; omega, rfl, rfl⟩⟩
  have hR1 : Rg H v g (.slice (some ⟨mb, 0, none⟩) n n) N 0 R (.slice (some ⟨v4.heap.size, 0, none⟩) 1 1) (v4.alloc (.cells #[.int .i64 0] 3)) := by
    obtain ⟨cs0, hcs0, _⟩ := HR0.out.row
    exact ⟨Nat.zero_le _, Mc.start H.p, 0, .slice none 0 0, [0], HR0.out.below (Below.box _ _), HOK0.out, by rw [Nat.sub_zero]; exact HRUN.out.symm, hpo0, rfl, by have := hcs0.lt; simp [Value.ownBlock]; omega, fun k hk => ⟨by simp [Value.ownBlock] at hk ⊢; subst hk; have := (HR0.out.mo.lt mb rfl).2; omega, by simp [Value.ownBlock]⟩⟩
  have HR1 := Lib.hid hR1
  clear hpo0 hR1 h7 hmin
  go_loopw [11, 12, 41] (fun pv en i wr => ∃ (q : Nat) (pA : Option Addr) (pcap : Nat), i = .int .i64 q ∧ en = .int .i64 0 ∧ pv = .slice pA (q + 1) pcap ∧ Rg H v g (.slice (some ⟨mb, 0, none⟩) n n) N q R (.slice pA (q + 1) pcap) wr) (fun _ _ i _ => N - (intOf i).toNat)
  case atStart => exact ⟨0, _, _, rfl, rfl, rfl, HR1.out⟩
  case round =>
    obtain ⟨q, pA, pcap, rfl, rfl, rfl, hRg⟩ := hrel
    obtain ⟨hqN, s, nx, O, path, hRn, hOk, hgo, hpo, hpl, hpg, hpd⟩ := hRg
    have hNT := HN.out
    by_cases hqT : (q : Int) < T
    · obtain ⟨f, hf⟩ : ∃ f, N - q = f + 1 := ⟨N - q - 1, by omega⟩
      rw [hf] at hgo
      have hstep := step_any H v g (.slice (some ⟨mb, 0, none⟩) n n) O s nx wr HHV.out hRn HC.out (hOk.one HC.out)
      have hokn := hOk.step HC.out HWC.out HXS.out.1 HXS.out.2
      have hgn := @Mc.go_next H.p H.xs f s path
      have hgs := @Mc.go_stop H.p H.xs f s path
      have hss := @Mc.step_stay H.p H.xs s
      generalize Mc.step H.p H.xs s = r at *
      obtain ⟨s1, en⟩ := r
      simp only at hgn hgs hss hokn
      have HSTEP := Lib.hid hstep
      have HOKN := Lib.hid hokn
      have HGN := Lib.hid hgn
      have HGS := Lib.hid hgs
      have HSS := Lib.hid hss
      have HGO := Lib.hid hgo
      have HRN0 := Lib.hid hRn
      have HPO0 := Lib.hid hpo
      have HPD := Lib.hid (And.intro hpl (And.intro hpg hpd))
      have HF := Lib.hid hf
      have HQN := Lib.hid hqN
      clear hstep hokn hgn hgs hss hgo hRn hpo hpl hpg hpd hOk hf hqN hNT
      go_wp2_with fail
      refine HSTEP.out.mono ?_
      rintro e v5 ⟨O', nx', rfl, hRn, hfr, hor⟩
      have hpo : v5.ownsRow v.heap.size 3 1 (.slice pA (q + 1) pcap) (q + 1) (path.map (Value.int .i64)) := ownsRow.blk HPO0.out fun k hk => hfr.block k (HPO0.out.lt k hk).2 (fun e => HPD.out.2.1 (by rw [hk, e])) (fun e => (HPD.out.2.2 k hk).1 e.symm) (fun e => (HPD.out.2.2 k hk).2 e.symm)
      have hpd : ∀ k, (Value.slice pA (q + 1) pcap).ownBlock = some k → (Value.slice (some ⟨mb, 0, none⟩) n n).ownBlock ≠ some k ∧ O'.ownBlock ≠ some k := fun k hk => ⟨(HPD.out.2.2 k hk).1, fun e => by
        rcases hor with h1 | ⟨j, h1, h2⟩
        · exact (HPD.out.2.2 k hk).2 (h1.symm.trans e)
        · rw [h1] at e; injection e with e; have := (HPO0.out.lt k hk).2; omega⟩
      by_cases hen : en = 0
      · subst hen
        have hgn := HGN.out rfl
        have hok1 := HOKN.out
        obtain ⟨cv, hbv, hcv⟩ := hRn.row
        have k7 := (hbv.c 7).trans hcv.c7
        have HRNN := Lib.hid hRn
        have HPO := Lib.hid hpo
        have HPD2 := Lib.hid hpd
        have HGN2 := Lib.hid hgn
        have HOK1 := Lib.hid hok1
        have hgl : g < v5.heap.size := hbv.lt
        have hsz5 := hRn.bel.size
        have hl10 : q + 1 ≤ 5000 := by have := HPD.out.1; have := HQN.out; have := HN.out; have := HTT.out; omega
        have ho1 := (HPO.out.alloc (.cells #[.int .i64 s1.pl] 3))
        have HO1 := Lib.hid ho1
        clear hgn hok1 hbv hcv hRn hpo hpd hfr hor ho1
        obtain ⟨i0, hi0, hz0, hz1, hz2⟩ := info_parts i64_infoM
        go_wp2_with (
          at_builtin
          refine wpList_apM (w := v5.alloc (.cells #[.int .i64 s1.pl] 3)) rfl (.tmp 47) (.tmp 53) 23 rfl v.heap.size 3 i0 _ 8 Tryd.underlying23 hi0 hz0 hz1 hz2 rfl (.slice pA (q + 1) pcap) (q + 1) _ rfl HO1.out ⟨v5.heap.size, 0, none⟩ 1 1 [.int .i64 s1.pl] rfl (Sl.new v5 [.int .i64 s1.pl] 3) (one_cell64M [s1.pl]) (by simp only [maxLen]; omega) (by omega) (by simp; omega) ?_
          intro pv' v6 hpo6 hg6 hor6
          obtain ⟨pA', pcap', rfl, _, _, _⟩ := own_open hpo6)
        have hsa : (v5.alloc (.cells #[.int .i64 s1.pl] 3)).heap.size = v5.heap.size + 1 := by simp
        rw [hsa] at hor6
        go_roundw
        case rel =>
          refine ⟨q + 1, pA', pcap', by go_num, rfl, rfl, by have := HF.out; omega, s1, nx', O', path ++ [s1.pl], ?_, HOK1.out, ?_, by simpa using hpo6, by have := HPD.out.1; simp; omega, ?_, ?_⟩
          · refine (HRNN.out.below (Below.box _ _)).grown hg6 (fun k hk => (HPO.out.lt k hk).1) HPD.out.2.1 HPD2.out
          · have h1 := HGO.out
            rw [HGN2.out] at h1
            rw [← h1, show N - (q + 1) = f by have := HF.out; omega]
          · rcases hor6 with h1 | h1
            · rw [h1]; exact HPD.out.2.1
            · rw [h1]; intro e; injection e with e; omega
          · intro k hk
            rcases hor6 with h1 | h1
            · exact HPD2.out k (h1.symm.trans hk)
            · rw [h1] at hk
              injection hk with hk
              exact ⟨fun e => by have := (HRNN.out.mo.lt k e).2; omega, fun e => by have := (HRNN.out.oo.lt k e).2; omega⟩
        case measure => simp [intOf]; have := HF.out; omega
      · have hgs := HGS.out hen
        have hreq := HGO.out
        rw [hgs] at hreq
        have hss := HSS.out hen
        subst hss
        have HREQ := Lib.hid hreq
        have hen' : (en == 0) = false := by simpa using hen
        have hen2 : (en != 0) = true := by simpa using hen
        have hpl := HPD.out.1
        clear hgs hreq hen hfr hor hpd
        go_wp2_with fail
        have HPL := Lib.hid hpl
        have hF := hRn
        obtain ⟨cv, hbv, hcv⟩ := hRn.row
        obtain ⟨mA, mcap, hMv, _, _, _⟩ := own_open hRn.mo
        have k8 := (hbv.drew.c 8).trans (hcv.rg 0 (by decide))
        have k9 := (hbv.drew.c 9).trans (hcv.rg 1 (by decide))
        have k10 := (hbv.drew.c 10).trans (hcv.rg 2 (by decide))
        have k11 := (hbv.drew.c 11).trans (hcv.rg 3 (by decide))
        have k12 := (hbv.drew.c 12).trans (hcv.rg 4 (by decide))
        have k13 := (hbv.drew.c 13).trans (hcv.rg 5 (by decide))
        have k14 := (hbv.drew.c 14).trans (hcv.rg 6 (by decide))
        have k15 := (hbv.drew.c 15).trans (hcv.rg 7 (by decide))
        have k16 := (hbv.drew.c 16).trans hcv.c16
        have hrg : trC (.slice pA (q + 1) pcap) en s1.rg (.slice (some ⟨mb, 0, none⟩) n n) = #[.slice pA (q + 1) pcap, .int .i64 en, .int .u64 (s1.rg.getD 0 0), .int .u64 (s1.rg.getD 1 0), .int .u64 (s1.rg.getD 2 0), .int .u64 (s1.rg.getD 3 0), .int .u64 (s1.rg.getD 4 0), .int .u64 (s1.rg.getD 5 0), .int .u64 (s1.rg.getD 6 0), .int .u64 (s1.rg.getD 7 0), .slice (some ⟨mb, 0, none⟩) n n] := rfl
        generalize s1.rg.getD 0 0 = r0 at *
        generalize s1.rg.getD 1 0 = r1 at *
        generalize s1.rg.getD 2 0 = r2 at *
        generalize s1.rg.getD 3 0 = r3 at *
        generalize s1.rg.getD 4 0 = r4 at *
        generalize s1.rg.getD 5 0 = r5 at *
        generalize s1.rg.getD 6 0 = r6 at *
        generalize s1.rg.getD 7 0 = r7 at *
        have htb : v5.heap[w.heap.size + 1]? = some (.cells #[.slice none 0 0, .int .i64 0, .int .u64 0, .int .u64 0, .int .u64 0, .int .u64 0, .int .u64 0, .int .u64 0, .int .u64 0, .int .u64 0, .slice none 0 0] 32 (0, 0)) := (hRn.bel.block _ (by have := HVZ.out; omega)).trans HV2.out
        have h1c : (#[.slice pA (q + 1) pcap, .int .i64 en, .int .u64 r0, .int .u64 r1, .int .u64 r2, .int .u64 r3, .int .u64 r4, .int .u64 r5, .int .u64 r6, .int .u64 r7, .slice (some ⟨mb, 0, none⟩) n n] : Array Value).all (·.oneCell') = true := by simp [Value.oneCell']
        have HRG := Lib.hid hrg
        have HTB := Lib.hid htb
        have H1C := Lib.hid h1c
        have HRN := Lib.hid hF
        have HPO := Lib.hid hpo
        clear hF hRn hbv hcv hMv hrg htb h1c hpo
        refine still_tail 13 (by kernel_rfl) (by kernel_rfl) ?_
        simp only [List.take_succ_cons, List.take_zero, List.drop_succ_cons, List.drop_zero]
        repeat still_step
        refine wpStill_nil ?_
        clear k8 k9 k10 k11 k12 k13 k14 k15 k16
        have hdr : v5.drew.heap[w.heap.size + 1]? = some (.cells #[.slice none 0 0, .int .i64 0, .int .u64 0, .int .u64 0, .int .u64 0, .int .u64 0, .int .u64 0, .int .u64 0, .int .u64 0, .int .u64 0, .slice none 0 0] 32 (0, 0)) := HTB.out
        have HDR := Lib.hid hdr
        clear hdr
        go_wp2_with (first | (with_reducible refine store_tr (.tmp 6) (.tmp 68) _ _ #[.slice pA (q + 1) pcap, .int .i64 en, .int .u64 r0, .int .u64 r1, .int .u64 r2, .int .u64 r3, .int .u64 r4, .int .u64 r5, .int .u64 r6, .int .u64 r7, .slice (some ⟨mb, 0, none⟩) n n] HDR.out rfl rfl rfl rfl rfl rfl H1C.out ?_) | fail)
        refine ret_tr (w.heap.size + 1) #[.slice pA (q + 1) pcap, .int .i64 en, .int .u64 r0, .int .u64 r1, .int .u64 r2, .int .u64 r3, .int .u64 r4, .int .u64 r5, .int .u64 r6, .int .u64 r7, .slice (some ⟨mb, 0, none⟩) n n] (.int .i64 0) (setRow_heap _ _ _ _ _ _ HDR.out) rfl rfl rfl rfl rfl ?_
        have hRR := HREQ.out
        subst hRR
        have hvs : w.heap.size + 2 ≤ v.heap.size := HVZ.out
        refine ⟨.slice pA (q + 1) pcap, .slice (some ⟨mb, 0, none⟩) n n, by rw [← HRG.out], ?_, ?_, below_setRowM (HB2.out.trans (HRN.out.bel.mono (by omega))).drew (by omega) _⟩
        · simp only
          rw [HPL.out]
          exact Joins.ownsRow_le (ownsRow.blk HPO.out.drew fun k hk => setRow_other _ _ _ _ (by have := (HPO.out.lt k hk).1; omega)) (by omega)
        · exact Joins.ownsRow_le (ownsRow.blk HRN.out.mo.drew fun k hk => setRow_other _ _ _ _ (by have := (HRN.out.mo.lt k hk).1; omega)) (by omega)
    · have hqe : q = N := by omega
      have hreq := hgo
      rw [hqe, Nat.sub_self] at hreq
      have hreq : (path, s, (0 : Int)) = R := hreq
      have HREQ := Lib.hid hreq
      clear hreq hgo hqe hpg hpd hNT hqN hOk
      go_wp2_with fail
      have HPL := Lib.hid hpl
      have hF := hRn
      obtain ⟨cv, hbv, hcv⟩ := hRn.row
      obtain ⟨mA, mcap, hMv, _, _, _⟩ := own_open hRn.mo
      have k8 := (hbv.drew.c 8).trans (hcv.rg 0 (by decide))
      have k9 := (hbv.drew.c 9).trans (hcv.rg 1 (by decide))
      have k10 := (hbv.drew.c 10).trans (hcv.rg 2 (by decide))
      have k11 := (hbv.drew.c 11).trans (hcv.rg 3 (by decide))
      have k12 := (hbv.drew.c 12).trans (hcv.rg 4 (by decide))
      have k13 := (hbv.drew.c 13).trans (hcv.rg 5 (by decide))
      have k14 := (hbv.drew.c 14).trans (hcv.rg 6 (by decide))
      have k15 := (hbv.drew.c 15).trans (hcv.rg 7 (by decide))
      have k16 := (hbv.drew.c 16).trans hcv.c16
      have hrg : trC (.slice pA (q + 1) pcap) 0 s.rg (.slice (some ⟨mb, 0, none⟩) n n) = #[.slice pA (q + 1) pcap, .int .i64 0, .int .u64 (s.rg.getD 0 0), .int .u64 (s.rg.getD 1 0), .int .u64 (s.rg.getD 2 0), .int .u64 (s.rg.getD 3 0), .int .u64 (s.rg.getD 4 0), .int .u64 (s.rg.getD 5 0), .int .u64 (s.rg.getD 6 0), .int .u64 (s.rg.getD 7 0), .slice (some ⟨mb, 0, none⟩) n n] := rfl
      generalize s.rg.getD 0 0 = r0 at *
      generalize s.rg.getD 1 0 = r1 at *
      generalize s.rg.getD 2 0 = r2 at *
      generalize s.rg.getD 3 0 = r3 at *
      generalize s.rg.getD 4 0 = r4 at *
      generalize s.rg.getD 5 0 = r5 at *
      generalize s.rg.getD 6 0 = r6 at *
      generalize s.rg.getD 7 0 = r7 at *
      have htb : wr.heap[w.heap.size + 1]? = some (.cells #[.slice none 0 0, .int .i64 0, .int .u64 0, .int .u64 0, .int .u64 0, .int .u64 0, .int .u64 0, .int .u64 0, .int .u64 0, .int .u64 0, .slice none 0 0] 32 (0, 0)) := (hRn.bel.block _ (by have := HVZ.out; omega)).trans HV2.out
      have h1c : (#[.slice pA (q + 1) pcap, .int .i64 0, .int .u64 r0, .int .u64 r1, .int .u64 r2, .int .u64 r3, .int .u64 r4, .int .u64 r5, .int .u64 r6, .int .u64 r7, .slice (some ⟨mb, 0, none⟩) n n] : Array Value).all (·.oneCell') = true := by simp [Value.oneCell']
      have HRG := Lib.hid hrg
      have HTB := Lib.hid htb
      have H1C := Lib.hid h1c
      have HRN := Lib.hid hF
      have HPO := Lib.hid hpo
      clear hF hRn hbv hcv hMv hrg htb h1c hpo
      refine still_tail 13 (by kernel_rfl) (by kernel_rfl) ?_
      simp only [List.take_succ_cons, List.take_zero, List.drop_succ_cons, List.drop_zero]
      repeat still_step
      refine wpStill_nil ?_
      clear k8 k9 k10 k11 k12 k13 k14 k15 k16
      have hdr : wr.drew.heap[w.heap.size + 1]? = some (.cells #[.slice none 0 0, .int .i64 0, .int .u64 0, .int .u64 0, .int .u64 0, .int .u64 0, .int .u64 0, .int .u64 0, .int .u64 0, .int .u64 0, .slice none 0 0] 32 (0, 0)) := HTB.out
      have HDR := Lib.hid hdr
      clear hdr
      go_wp2_with (first | (with_reducible refine store_tr (.tmp 6) (.tmp 68) _ _ #[.slice pA (q + 1) pcap, .int .i64 0, .int .u64 r0, .int .u64 r1, .int .u64 r2, .int .u64 r3, .int .u64 r4, .int .u64 r5, .int .u64 r6, .int .u64 r7, .slice (some ⟨mb, 0, none⟩) n n] HDR.out rfl rfl rfl rfl rfl rfl H1C.out ?_) | fail)
      refine ret_tr (w.heap.size + 1) #[.slice pA (q + 1) pcap, .int .i64 0, .int .u64 r0, .int .u64 r1, .int .u64 r2, .int .u64 r3, .int .u64 r4, .int .u64 r5, .int .u64 r6, .int .u64 r7, .slice (some ⟨mb, 0, none⟩) n n] (.int .i64 0) (setRow_heap _ _ _ _ _ _ HDR.out) rfl rfl rfl rfl rfl ?_
      have hRR := HREQ.out
      subst hRR
      have hvs : w.heap.size + 2 ≤ v.heap.size := HVZ.out
      refine ⟨.slice pA (q + 1) pcap, .slice (some ⟨mb, 0, none⟩) n n, by rw [← HRG.out], ?_, ?_, below_setRowM (HB2.out.trans (HRN.out.bel.mono (by omega))).drew (by omega) _⟩
      · simp only
        rw [HPL.out]
        exact Joins.ownsRow_le (ownsRow.blk HPO.out.drew fun k hk => setRow_other _ _ _ _ (by have := (HPO.out.lt k hk).1; omega)) (by omega)
      · exact Joins.ownsRow_le (ownsRow.blk HRN.out.mo.drew fun k hk => setRow_other _ _ _ _ (by have := (HRN.out.mo.lt k hk).1; omega)) (by omega)
end Go.Proofs.YthkhadbeomkihaaDoor
