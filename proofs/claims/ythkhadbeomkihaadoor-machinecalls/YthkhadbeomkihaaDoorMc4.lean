/-
  The contract of the runner's call: append onto the open places through a field.
-/
import Derived.Test.YthkhadbeomkihaaDoorMc3
import Derived.Test.YthkhadbeomkihaaDoorHeT
namespace Go.Proofs.YthkhadbeomkihaaDoor
set_option maxRecDepth 100000
open Go.RowKit

theorem i64_infoM : (Tryd.prog.info? 3).map (fun i => (i.zero, i.size, i.bytes)) = some (some (.int .i64 0), 1, 8) := by kernel_rfl
theorem one_cell64M (xs : List Int) : ∀ u ∈ xs.map (Value.int .i64), u.oneCell' = true := fun u hu => by
  obtain ⟨x, _, rfl⟩ := List.mem_map.1 hu
  rfl
theorem step_apM {P : Program} {w : World} {ops : Array Oper} {o : Oper} {a : Act} {K : Act → World → Prop} {Q : Exit → Act → World → Prop} {E : Prop} (hgd : o.guard = none) (s x : Operand) (t : TypeId)
    (ho : o.op = .call { callee := .builtin .append, args := #[s, x], argTypes := #[t, t] })
    (base : Nat) (e : TypeId) (i : TypeInfo) (z : Value) (bytes : Nat) (ht : P.underlying t = some (.slice e)) (hi : P.info? e = some i) (hz : i.zero = some z)
    (hsize : i.size = 1) (hby : i.bytes = bytes) (hzs : z.cells.size = 1)
    (v : Value) (n : Nat) (xs : List Value) (hs : a.eval s = v) (hown : w.ownsRow base e 1 v n xs)
    (ad : Addr) (m c : Nat) (news : List Value) (hx : a.eval x = .slice (some ad) m c) (hr : Sl w (some ad) m news) (h1 : ∀ u ∈ news, u.oneCell' = true)
    (h63 : n + m ≤ maxLen) (hbytes : (n + m) * bytes ≤ 140737488355328) (hbase : base ≤ w.heap.size) (N : Nat) (L : List Value) (hN : n + m = N) (hL : xs ++ news = L)
    (h : ∀ A' cap' w', w'.ownsRow base e 1 (.slice A' N cap') N L → Below base w w' → w.grownBy w' v.ownBlock → ((Value.slice A' N cap').ownBlock = v.ownBlock ∨ (Value.slice A' N cap').ownBlock = some w.heap.size) → K (a.put o.dst (.slice A' N cap')) w') :
    if Region.wanted o (yielded ops a.tmps) = true then Oper.wp P o a w K Q else E := by
  subst hN hL
  have hw : Region.wanted o (yielded ops a.tmps) = true := by simp [Region.wanted, hgd]
  rw [if_pos hw]
  obtain ⟨_, _, _, _, _, _, hk⟩ := Sl.of_own hown
  have hcells : ∀ j u, news[j]? = some u → w.cell? (ad.add j) = some u := fun j u hu => by
    rcases Nat.eq_zero_or_pos m with h0 | h0
    · have hn : news = [] := List.eq_nil_of_length_eq_zero (hr.1.trans h0)
      subst hn
      simp at hu
    · obtain ⟨b, o', he, _, hc⟩ := hr.2 h0
      injection he with he
      subst he
      exact hc j u hu
  obtain ⟨v', w', hrun, h2, h3, _, h5⟩ := run_append_own_at (P := P) w base t o.type e i z 1 bytes ht hi hz hsize hby hzs (by omega) v n xs hown ad m c news (by rw [hr.1]; omega) hcells h1 h63 hbytes hbase
  have h4 := (Below.refl base w).grown h3 hbase hk
  obtain ⟨A', cap', rfl, hc1, hc2, hsl, _⟩ := Sl.of_own h2
  unfold Oper.wp execOp
  simp only [ho, resolve, invoke, builtin, Sem.run_bind, Sem.run_pure, Result.andThen_ok, List.map_toArray, List.map_cons, List.map_nil, hs, hx, hrun]
  exact h A' cap' w' h2 h4 h3 h5

theorem RnB.grown {w w' : World} {g : Nat} {cs : Array Value} {row : Option Nat} (h : RnB w g cs) (hg : w.grownBy w' row) (hne : row ≠ some g) : RnB w' g cs := (hg.block g h.lt (fun e => hne e.symm)).trans h
theorem grownBy_set (w : World) (g i : Nat) (v : Value) : w.grownBy (w.setCell ⟨g, i, none⟩ v) (some g) := ⟨rfl, rfl, rfl, by simp, fun k _ hne => Below.heap_setCell _ _ _ _ (fun e => hne (by rw [e]))⟩
theorem Fr.grown {g : Nat} {m o : Option Nat} {w w' : World} (hg : w.grownBy w' o) : Fr g m o w w' := ⟨hg.os, hg.tape, hg.output, hg.size, fun k hk _ _ h3 => hg.block k hk h3⟩

set_option maxRecDepth 20000 in
set_option maxHeartbeats 3200000 in
theorem call_ok (g : Nat) (op a b c m stk nx z : Int) (O : Value) (A : Option Addr) (n cap base : Nat) (xs : List Int) (cs : Array Value) (w : World) (hb : RnB w g cs) (hz : cs.size = 45) (hO : O = .slice A n cap) (ho : cs[17]? = some O) (hs : cs[1]? = some (.int .i64 stk)) (hx : cs[18]? = some (.int .i64 nx))
    (bf of lf cf k : Nat) (hF : cs[4]? = some (.slice (some ⟨bf, of, none⟩) lf cf)) (hlf : lf ≤ maxLen) (hbf : bf < base) (hbase : base ≤ w.heap.size) (hk : m = k) (hkl : k < lf) (hcell : w.cell? ⟨bf, of + k, none⟩ = some (.int .i64 z))
    (hown : w.ownsRow base 3 1 O n (xs.map (Value.int .i64))) (hn : n ≤ 1000) (h : (n : Int) < stk) (hgo : O.ownBlock ≠ some g) (hgb : base ≤ g) :
    Calls Tryd.prog 79 #[.pointer (some ⟨g, 0, none⟩), .agg #[.int .i64 op, .int .i64 a, .int .i64 b, .int .i64 c, .int .u64 m]] w fun e w' =>
      ∃ A' cap', e = .returned (.int .i64 0) ∧ RnB w' g ((cs.setIfInBounds 17 (.slice A' (n + 1) cap')).setIfInBounds 18 (.int .i64 z)) ∧ w'.ownsRow base 3 1 (.slice A' (n + 1) cap') (n + 1) ((xs ++ [nx]).map (Value.int .i64)) ∧
        Fr g none O.ownBlock w w' ∧ ((Value.slice A' (n + 1) cap').ownBlock = O.ownBlock ∨ ∃ k, (Value.slice A' (n + 1) cap').ownBlock = some k ∧ w.heap.size ≤ k) := by
  obtain ⟨i0, hi0, hz0, hz1, hz2⟩ := info_parts i64_infoM
  unfold maxLen at hlf
  have c0 := hb.cA ho
  have c1 := hb.cA hs
  have HX := Lib.hid hx
  have HF := Lib.hid hF
  have HO := Lib.hid hO
  have HB := Lib.hid hb
  have HOO := Lib.hid ho
  have HOW := Lib.hid hown
  have HBS := Lib.hid hbase
  have HGO := Lib.hid hgo
  have HC := Lib.hid hcell
  have HK := Lib.hid hk
  have hlen : (Builtin.lenOf O) = (Builtin.lenOf (.slice A n cap)) := by rw [hO]
  clear hb ho hs hx hF hown hbase hgo hcell hk hlen
  have hc0 : ∀ (o : Obj), (w.alloc o).cell? ⟨g, 17, none⟩ = some (.slice A n cap) := fun o => (c0 o).trans (by rw [hO])
  have C0 := Lib.hid c0
  clear c0 hO
  go_enter Tryd.func79, Tryd.ntmps79
  go_wp2
  go_quiet (fail)
  go_wp2_with fail
  generalize hW : (w.alloc (.cells #[.int .i64 op, .int .i64 a, .int .i64 b, .int .i64 c, .int .u64 m] 59)).drewN nq = w1
  have hB1 : Below w.heap.size w w1 := by rw [← hW]; exact below_drewN (Below.box _ _) _
  have hi4 : w1.cell? ⟨w.heap.size, 4, none⟩ = some (.int .u64 m) := by rw [← hW]; simp
  have hR1 : RnB w1 g cs := by rw [← hW]; exact (HB.out.box _).drewN nq
  have HW1 := Lib.hid hB1
  have HI4 := Lib.hid hi4
  have HR1 := Lib.hid hR1
  clear hW hc0 c1 hB1 hi4 hR1
  have s17 : w1.drew.cell? ⟨g, 17, none⟩ = some O := (HR1.out.drew.c 17).trans HOO.out
  have s18 : w1.drew.cell? ⟨g, 18, none⟩ = some (.int .i64 nx) := (HR1.out.drew.c 18).trans HX.out
  refine held_tail (S := fun W => W.cell? ⟨g, 17, none⟩ = some O ∧ W.cell? ⟨g, 18, none⟩ = some (.int .i64 nx)) 12 (by kernel_rfl) (by simp) ⟨s17, s18⟩ (fun hHeld => ?_)
  clear s17 s18
  refine headS_take (i := 0) (v := .pointer (some ⟨g, 0, none⟩)) rfl (by kernel_rfl) (fun _ _ _ h => h) (Or.inl ⟨by rfl, fun w9 hSw => ?_⟩) hHeld ?_
  · obtain ⟨hS1, hS2⟩ := hSw
    go_simp
  try simp only [List.getElem_toArray, List.getElem_cons_succ, List.getElem_cons_zero, Act.put, List.setIfInBounds_toArray, List.set_cons_zero, List.set_cons_succ]
  refine headS_take (i := 1) (v := .pointer (some ⟨g, 0, none⟩)) rfl (by kernel_rfl) (fun _ _ _ h => h) (Or.inl ⟨by rfl, fun w9 hSw => ?_⟩) hHeld ?_
  · obtain ⟨hS1, hS2⟩ := hSw
    go_simp
  try simp only [List.getElem_toArray, List.getElem_cons_succ, List.getElem_cons_zero, Act.put, List.setIfInBounds_toArray, List.set_cons_zero, List.set_cons_succ]
  refine headS_take (i := 2) (v := .pointer (some ⟨g, 0, none⟩)) rfl (by kernel_rfl) (fun _ _ _ h => h) (Or.inl ⟨by rfl, fun w9 hSw => ?_⟩) hHeld ?_
  · obtain ⟨hS1, hS2⟩ := hSw
    go_simp
  try simp only [List.getElem_toArray, List.getElem_cons_succ, List.getElem_cons_zero, Act.put, List.setIfInBounds_toArray, List.set_cons_zero, List.set_cons_succ]
  refine headS_take (i := 3) (v := .pointer (some ⟨g, 7, none⟩)) rfl (by kernel_rfl) (fun _ _ _ h => h) (Or.inl ⟨by rfl, fun w9 hSw => ?_⟩) hHeld ?_
  · obtain ⟨hS1, hS2⟩ := hSw
    go_simp
  try simp only [List.getElem_toArray, List.getElem_cons_succ, List.getElem_cons_zero, Act.put, List.setIfInBounds_toArray, List.set_cons_zero, List.set_cons_succ]
  refine headS_take (i := 4) (v := .pointer (some ⟨g, 17, none⟩)) rfl (by kernel_rfl) (fun _ _ _ h => h) (Or.inl ⟨by rfl, fun w9 hSw => ?_⟩) hHeld ?_
  · obtain ⟨hS1, hS2⟩ := hSw
    go_simp
  try simp only [List.getElem_toArray, List.getElem_cons_succ, List.getElem_cons_zero, Act.put, List.setIfInBounds_toArray, List.set_cons_zero, List.set_cons_succ]
  refine headS_take (i := 5) (v := O) rfl (by kernel_rfl) (fun _ _ _ h => h) (Or.inl ⟨by rfl, fun w9 hSw => ?_⟩) hHeld ?_
  · obtain ⟨hS1, hS2⟩ := hSw
    go_simp
  try simp only [List.getElem_toArray, List.getElem_cons_succ, List.getElem_cons_zero, Act.put, List.setIfInBounds_toArray, List.set_cons_zero, List.set_cons_succ]
  refine headS_take (i := 6) (v := .pointer (some ⟨g, 0, none⟩)) rfl (by kernel_rfl) (fun _ _ _ h => h) (Or.inl ⟨by rfl, fun w9 hSw => ?_⟩) hHeld ?_
  · obtain ⟨hS1, hS2⟩ := hSw
    go_simp
  try simp only [List.getElem_toArray, List.getElem_cons_succ, List.getElem_cons_zero, Act.put, List.setIfInBounds_toArray, List.set_cons_zero, List.set_cons_succ]
  refine headS_take (i := 7) (v := .pointer (some ⟨g, 0, none⟩)) rfl (by kernel_rfl) (fun _ _ _ h => h) (Or.inl ⟨by rfl, fun w9 hSw => ?_⟩) hHeld ?_
  · obtain ⟨hS1, hS2⟩ := hSw
    go_simp
  try simp only [List.getElem_toArray, List.getElem_cons_succ, List.getElem_cons_zero, Act.put, List.setIfInBounds_toArray, List.set_cons_zero, List.set_cons_succ]
  refine headS_take (i := 8) (v := .pointer (some ⟨g, 18, none⟩)) rfl (by kernel_rfl) (fun _ _ _ h => h) (Or.inl ⟨by rfl, fun w9 hSw => ?_⟩) hHeld ?_
  · obtain ⟨hS1, hS2⟩ := hSw
    go_simp
  try simp only [List.getElem_toArray, List.getElem_cons_succ, List.getElem_cons_zero, Act.put, List.setIfInBounds_toArray, List.set_cons_zero, List.set_cons_succ]
  refine headS_take (i := 9) (v := .int .i64 nx) rfl (by kernel_rfl) (fun _ _ _ h => h) (Or.inl ⟨by rfl, fun w9 hSw => ?_⟩) hHeld ?_
  · obtain ⟨hS1, hS2⟩ := hSw
    go_simp
  try simp only [List.getElem_toArray, List.getElem_cons_succ, List.getElem_cons_zero, Act.put, List.setIfInBounds_toArray, List.set_cons_zero, List.set_cons_succ]
  refine headS_ready (rs := [10]) (by kernel_rfl) (by simp) (by rfl) ?_
  refine AllS.cons rfl (fun K hK => ?_) AllS.nil
  go_simp
  have hRB := (HR1.out.box (.cells #[.int .i64 nx] 3)).drew
  refine hK.out _ _ ⟨(hRB.c 17).trans HOO.out, (hRB.c 18).trans HX.out⟩ (fun hHeld => ?_)
  clear hK K
  try simp only [List.getElem_toArray, List.getElem_cons_succ, List.getElem_cons_zero, Act.put, List.setIfInBounds_toArray, List.set_cons_zero, List.set_cons_succ]
  refine headS_ready (rs := [11]) (by kernel_rfl) (by simp) (by rfl) ?_
  refine AllS.cons rfl (fun K hK => ?_) AllS.nil
  have hown1 : (w1.alloc (.cells #[.int .i64 nx] 3)).drew.ownsRow base 3 1 O n (xs.map (Value.int .i64)) := ((own_below HOW.out HW1.out).alloc _).drew
  refine step_apM (w := (w1.alloc (.cells #[.int .i64 nx] 3)).drew) rfl (.tmp 22) (.tmp 27) 23 rfl base 3 i0 _ 8 Tryd.underlying23 hi0 hz0 hz1 hz2 rfl O n _ rfl hown1 ⟨w1.heap.size, 0, none⟩ 1 1 [.int .i64 nx] rfl (Sl.new w1 [.int .i64 nx] 3) (one_cell64M [nx]) (by simp only [maxLen]; omega) (by omega) (by have h1 := HW1.out.size; have h2 := HBS.out; simp; omega) (n + 1) ((xs ++ [nx]).map (Value.int .i64)) rfl (by simp) ?_
  intro A' cap' w3 hown3 hb3 hg3 hor3
  have hR3 : RnB w3 g cs := hRB.grown hg3 HGO.out
  refine hK.out _ _ ⟨(hR3.c 17).trans HOO.out, (hR3.c 18).trans HX.out⟩ (fun hHeld => ?_)
  clear hK K
  try simp only [List.getElem_toArray, List.getElem_cons_succ, List.getElem_cons_zero, Act.put, List.setIfInBounds_toArray, List.set_cons_zero, List.set_cons_succ]
  refine ⟨by kernel_rfl, ?_⟩
  simp only [List.drop_succ_cons, List.drop_zero]
  have f17 := Joins.unfrozen_of_block hR3 17
  have hR4 := hR3.set (i := 17) (.slice A' (n + 1) cap')
  have hB3 : Below base w w3 := (HW1.out.mono HBS.out).trans ((((Below.refl _ _).alloc (Nat.le_trans HBS.out HW1.out.size) _).drew).trans hb3)
  have hgh : g < w.heap.size := HB.out.lt
  have hib : w3.cell? ⟨w.heap.size, 4, none⟩ = some (.int .u64 m) := (World.cell?_of_block (hg3.block w.heap.size (by have h1 := World.block_lt_of_cell? _ _ HI4.out; simp at h1 ⊢; omega) (fun e => by have h1 := (HOW.out.lt _ e.symm).2; omega))).trans (((Below.box w1 _).cell (p := ⟨w.heap.size, 4, none⟩) (World.block_lt_of_cell? _ _ HI4.out)).trans HI4.out)
  have hzc : w3.cell? ⟨bf, of + k, none⟩ = some (.int .i64 z) := (hB3.cell (p := ⟨bf, of + k, none⟩) hbf).trans HC.out
  have hown4 : (w3.setCell ⟨g, 17, none⟩ (.slice A' (n + 1) cap')).ownsRow base 3 1 (.slice A' (n + 1) cap') (n + 1) ((xs ++ [nx]).map (Value.int .i64)) := by
    refine hown3.kept (row := some g) ⟨rfl, rfl, rfl, by simp, fun k hk hne => Below.heap_setCell _ _ _ _ (fun e => hne (by rw [e]))⟩ ?_
    right
    intro e
    rcases hor3 with h1 | h1
    · rw [h1] at e; exact HGO.out e
    · rw [h1] at e; injection e with e; have := HW1.out.size; simp at e; omega
  have hne4 : (Value.slice A' (n + 1) cap').ownBlock = none ∨ (Value.slice A' (n + 1) cap').ownBlock ≠ some g := by
    right
    intro e
    rcases hor3 with h1 | h1
    · rw [h1] at e; exact HGO.out e
    · rw [h1] at e; injection e with e; have := HW1.out.size; simp at e; omega
  have k4 : (w3.setCell ⟨g, 17, none⟩ (.slice A' (n + 1) cap')).cell? ⟨w.heap.size, 4, none⟩ = some (.int .u64 m) := (World.cell?_of_block (Below.heap_setCell _ _ _ _ (by simp; omega))).trans hib
  have kz : (w3.setCell ⟨g, 17, none⟩ (.slice A' (n + 1) cap')).cell? ⟨bf, of + k, none⟩ = some (.int .i64 z) := (World.cell?_of_block (Below.heap_setCell _ _ _ _ (by simp; omega))).trans hzc
  have kF : (w3.setCell ⟨g, 17, none⟩ (.slice A' (n + 1) cap')).cell? ⟨g, 4, none⟩ = some (.slice (some ⟨bf, of, none⟩) lf cf) := (hR4.c 4).trans (by rw [Array.getElem?_setIfInBounds_ne (by decide)]; exact HF.out)
  have hFr : Fr g none O.ownBlock w (w3.setCell ⟨g, 17, none⟩ (.slice A' (n + 1) cap')) := ((Fr.of_below (HW1.out)).trans (((Fr.box w1 (.cells #[.int .i64 nx] 3)).drew).trans (Fr.grown hg3))).trans (Fr.set _ _ _)
  have hor4 : ((Value.slice A' (n + 1) cap').ownBlock = O.ownBlock ∨ ∃ k, (Value.slice A' (n + 1) cap').ownBlock = some k ∧ w.heap.size ≤ k) := hor3.imp_right fun h1 => ⟨_, h1, by have := HW1.out.size; simp; omega⟩
  have hsv : ∃ v, cs[17]? = some v := RnB.ex hz (by decide)
  have c17 := (hR3.c 17).trans HOO.out
  have HR4 := Lib.hid hR4
  have HF4 := Lib.hid hFr
  have HO4 := Lib.hid hor4
  have HOW4 := Lib.hid hown4
  clear hHeld hor4 hFr hR4 hR3 hRB hown1 hown3 hb3 hg3 hor3 hB3 hib hzc hsv hown4
  go_wp2_with fail
  generalize w3.setCell ⟨g, 17, none⟩ (.slice A' (n + 1) cap') = w4 at *
  obtain ⟨v18, hv18⟩ := RnB.ex (cs := cs.setIfInBounds 17 (.slice A' (n + 1) cap')) (by simp [hz]) (i := 18) (by decide)
  have c18 : w4.drew.cell? ⟨g, 18, none⟩ = some v18 := (HR4.out.c 18).trans hv18
  have f18 : w4.drew.frozen? ⟨g, 18, none⟩ = false := Joins.unfrozen_of_block HR4.out 18
  have hkn : (k : Int) < lf := by omega
  have hkm := HK.out
  subst hkm
  clear f17 c17 hv18
  refine still_tail 10 (by kernel_rfl) (by kernel_rfl) ?_
  simp only [List.take_succ_cons, List.take_zero, List.drop_succ_cons, List.drop_zero]
  repeat still_step
  refine wpStill_nil ?_
  go_wp2
  go_ret
  exact ⟨rfl, A', cap', HR4.out.drew.set _, by simpa using (HOW4.out.kept (grownBy_set _ g 18 (.int .i64 z)) hne4).drew, HF4.out.trans ((Fr.refl _ _ _ _).drew.trans (Fr.set _ _ _)), HO4.out⟩
end Go.Proofs.YthkhadbeomkihaaDoor
