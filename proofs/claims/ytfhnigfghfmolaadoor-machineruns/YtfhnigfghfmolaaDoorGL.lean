/-
  The reference's memory: what isn't there.
  The reference's memory: a load.
  The reference's memory: a save.
  The reference's flow: a back from an open place.
  The reference's Start.
  The reference's flow: a call that there is room for.
-/
import Derived.Test.YtfhnigfghfmolaaDoorGK
set_option linter.unusedSimpArgs false
set_option linter.unusedVariables false
namespace Go.Proofs.YtfhnigfghfmolaaDoor
set_option maxRecDepth 100000
open Go.RowKit

set_option maxRecDepth 20000 in
set_option maxHeartbeats 6400000 in
theorem rmem_out (o a c m : Int) (b : Nat) (pl : Int) (z0 z1 z2 z3 z4 z5 z6 z7 : Int) (MA : Option Addr) (mn mc : Nat) (OA : Option Addr) (on oc : Nat) (x at' : Int) (w : World) (hb : b < 8) (hx : (#[.int .i64 pl, .int .u64 z0, .int .u64 z1, .int .u64 z2, .int .u64 z3, .int .u64 z4, .int .u64 z5, .int .u64 z6, .int .u64 z7, .slice MA mn mc, .slice OA on oc] : Array Value)[1 + b]? = some (.int .u64 x)) (hat : (x + m) % 18446744073709551616 = at') (hmn : mn ≤ 1000) (c0 : 0 ≤ c) (c1 : c ≤ 8) (a0 : 0 ≤ at') (ht : ¬ at' + c ≤ mn) :
    Calls Tryd.prog 38 #[.agg #[.int .i64 o, .int .i64 a, .int .i64 b, .int .i64 c, .int .u64 m], .agg #[.int .i64 pl, .int .u64 z0, .int .u64 z1, .int .u64 z2, .int .u64 z3, .int .u64 z4, .int .u64 z5, .int .u64 z6, .int .u64 z7, .slice MA mn mc, .slice OA on oc]] w fun e w' => e = .returned (.tuple #[.agg #[.int .i64 pl, .int .u64 z0, .int .u64 z1, .int .u64 z2, .int .u64 z3, .int .u64 z4, .int .u64 z5, .int .u64 z6, .int .u64 z7, .slice MA mn mc, .slice OA on oc], .int .i64 2]) ∧ Below w.heap.size w w' := by
  have e0 : IntKind.u64.wrap (x + m) = at' := by rw [IntKind.wrap_u64, hat]
  have hth : ∀ W, Calls Tryd.prog 50 #[.int .i64 mn, .int .u64 at', .int .i64 c] W fun e w' => e = .returned (.bool false) ∧ W = w' := fun W => by
    have := rthere_any mn at' c W (by omega) (by omega) (by omega) (by omega)
    have hd : (decide (at' + c ≤ (mn : Int)) && decide (c ≤ (mn : Int))) = false := by
      simp
      omega
    rwa [hd] at this
  have h3 := three w (.cells #[.int .i64 o, .int .i64 a, .int .i64 b, .int .i64 c, .int .u64 m] 59) (.cells #[.int .i64 pl, .int .u64 z0, .int .u64 z1, .int .u64 z2, .int .u64 z3, .int .u64 z4, .int .u64 z5, .int .u64 z6, .int .u64 z7, .slice MA mn mc, .slice OA on oc] 45) (.cells #[.int .i64 0, .int .u64 0, .int .u64 0, .int .u64 0, .int .u64 0, .int .u64 0, .int .u64 0, .int .u64 0, .int .u64 0, .slice none 0 0, .slice none 0 0] 45)
  have hB : Below w.heap.size w (((w.alloc (.cells #[.int .i64 o, .int .i64 a, .int .i64 b, .int .i64 c, .int .u64 m] 59)).alloc (.cells #[.int .i64 pl, .int .u64 z0, .int .u64 z1, .int .u64 z2, .int .u64 z3, .int .u64 z4, .int .u64 z5, .int .u64 z6, .int .u64 z7, .slice MA mn mc, .slice OA on oc] 45)).alloc (.cells #[.int .i64 0, .int .u64 0, .int .u64 0, .int .u64 0, .int .u64 0, .int .u64 0, .int .u64 0, .int .u64 0, .int .u64 0, .slice none 0 0, .slice none 0 0] 45)) := (((Below.refl _ _).alloc (Nat.le_refl _) _).alloc (by simp) _).alloc (by simp; omega) _
  have h1 := h3.1
  have hz : (((w.alloc (.cells #[.int .i64 o, .int .i64 a, .int .i64 b, .int .i64 c, .int .u64 m] 59)).alloc (.cells #[.int .i64 pl, .int .u64 z0, .int .u64 z1, .int .u64 z2, .int .u64 z3, .int .u64 z4, .int .u64 z5, .int .u64 z6, .int .u64 z7, .slice MA mn mc, .slice OA on oc] 45)).alloc (.cells #[.int .i64 0, .int .u64 0, .int .u64 0, .int .u64 0, .int .u64 0, .int .u64 0, .int .u64 0, .int .u64 0, .int .u64 0, .slice none 0 0, .slice none 0 0] 45)).heap.size = w.heap.size + 3 := by simp
  have hbz : (b : Int) < 8 := by omega
  have HTH := Lib.hid hth
  clear hth hat
  go_enter Tryd.func38, Tryd.ntmps38
  go_wp2_with fail
  generalize (((w.alloc (.cells #[.int .i64 o, .int .i64 a, .int .i64 b, .int .i64 c, .int .u64 m] 59)).alloc (.cells #[.int .i64 pl, .int .u64 z0, .int .u64 z1, .int .u64 z2, .int .u64 z3, .int .u64 z4, .int .u64 z5, .int .u64 z6, .int .u64 z7, .slice MA mn mc, .slice OA on oc] 45)).alloc (.cells #[.int .i64 0, .int .u64 0, .int .u64 0, .int .u64 0, .int .u64 0, .int .u64 0, .int .u64 0, .int .u64 0, .int .u64 0, .slice none 0 0, .slice none 0 0] 45)) = w3 at *
  have i2 := row_cell h1 2
  have i4 := row_cell h1 4
  simp at i2 i4
  have cb : w3.cell? ⟨w.heap.size + 1, 1 + b, none⟩ = some (.int .u64 x) := by
    rw [cell_of_row _ _ _ _ _ _ h3.2.1]
    exact hx
  have H1 := Lib.hid h1
  have H3 := Lib.hid h3
  have HB := Lib.hid hB
  have HZ := Lib.hid hz
  clear h1 h3 hB hz hx
  go_quiet (fail)
  have H1' : (w3.drewN nq).heap[w.heap.size]? = _ := H1.out
  have H31 : (w3.drewN nq).heap[w.heap.size + 1]? = _ := H3.out.2.1
  have H32 : (w3.drewN nq).heap[w.heap.size + 1 + 1]? = _ := H3.out.2.2
  have hBd := below_drewN HB.out nq
  generalize w3.drewN nq = w4 at *
  have i0 := row_cell H1' 0
  have i1 := row_cell H1' 1
  have i3 := row_cell H1' 3
  simp at i0 i1 i3
  have x0 := row_cell H31 0
  have x1 := row_cell H31 1
  have x2 := row_cell H31 2
  have x3 := row_cell H31 3
  have x4 := row_cell H31 4
  have x5 := row_cell H31 5
  have x6 := row_cell H31 6
  have x7 := row_cell H31 7
  have x8 := row_cell H31 8
  have x9 := row_cell H31 9
  have x10 := row_cell H31 10
  simp at x0 x1 x2 x3 x4 x5 x6 x7 x8 x9 x10
  have X1 := Lib.hid H31
  have X2 := Lib.hid H32
  have HBD := Lib.hid hBd
  clear H1' H31 H32 hBd i2 i4 cb e0
  go_wp2_with fail
  refine (HTH.out _).mono ?_
  rintro e v ⟨rfl, rfl⟩
  have h1c : (#[.int .i64 pl, .int .u64 z0, .int .u64 z1, .int .u64 z2, .int .u64 z3, .int .u64 z4, .int .u64 z5, .int .u64 z6, .int .u64 z7, .slice MA mn mc, .slice OA on oc] : Array Value).all (·.oneCell') = true := by simp [Value.oneCell']
  have H1C := Lib.hid h1c
  clear h1c
  go_wp2_with (first | (with_reducible refine store_r (.tmp 4) (.tmp 28) _ _ #[.int .i64 pl, .int .u64 z0, .int .u64 z1, .int .u64 z2, .int .u64 z3, .int .u64 z4, .int .u64 z5, .int .u64 z6, .int .u64 z7, .slice MA mn mc, .slice OA on oc] X2.out rfl rfl rfl rfl rfl rfl H1C.out ?_) | fail)
  refine ret_r2 (w.heap.size + 1 + 1) #[.int .i64 pl, .int .u64 z0, .int .u64 z1, .int .u64 z2, .int .u64 z3, .int .u64 z4, .int .u64 z5, .int .u64 z6, .int .u64 z7, .slice MA mn mc, .slice OA on oc] (.int .i64 2) (setRow_heap _ _ _ _ _ _ X2.out) rfl rfl rfl rfl rfl ?_
  exact ⟨rfl, below_setRowM HBD.out (by omega) _⟩
end Go.Proofs.YtfhnigfghfmolaaDoor
namespace Go.Proofs.YtfhnigfghfmolaaDoor
set_option maxRecDepth 100000
open Go.RowKit

theorem Mc.le_drop (L : List Int) (r : Nat) (h : r < L.length) : Mc.le (L.drop r) = L.getD r 0 + 256 * Mc.le (L.drop (r + 1)) := by
  rw [List.drop_eq_getElem_cons h, Mc.le, List.getD_eq_getElem?_getD, List.getElem?_eq_getElem h]
  rfl

set_option maxRecDepth 20000 in
set_option maxHeartbeats 6400000 in
theorem rmem_load (m : Int) (a b k cn : Nat) (pl : Int) (z0 z1 z2 z3 z4 z5 z6 z7 : Int) (MA : Option Addr) (mn mc : Nat) (OA : Option Addr) (on oc : Nat) (mm op : List Int) (x : Int) (w : World) (ha : a < 8) (hb : b < 8) (hx : (#[.int .i64 pl, .int .u64 z0, .int .u64 z1, .int .u64 z2, .int .u64 z3, .int .u64 z4, .int .u64 z5, .int .u64 z6, .int .u64 z7, .slice MA mn mc, .slice OA on oc] : Array Value)[1 + b]? = some (.int .u64 x)) (hat : (x + m) % 18446744073709551616 = k) (hmn : mn ≤ 1000) (c1 : cn ≤ 8) (ht : k + cn ≤ mn) (hm : BySl w MA mn mc mm) (p0 : 0 ≤ pl) (p1 : pl < 1000000) :
    Calls Tryd.prog 38 #[.agg #[.int .i64 17, .int .i64 a, .int .i64 b, .int .i64 cn, .int .u64 m], .agg #[.int .i64 pl, .int .u64 z0, .int .u64 z1, .int .u64 z2, .int .u64 z3, .int .u64 z4, .int .u64 z5, .int .u64 z6, .int .u64 z7, .slice MA mn mc, .slice OA on oc]] w fun e w' => e = .returned (.tuple #[.agg (stC ⟨pl + 1, [z0, z1, z2, z3, z4, z5, z6, z7].set a (Mc.le ((mm.drop k).take cn)), mm, op⟩ (.slice MA mn mc) (.slice OA on oc)), .int .i64 0]) ∧ Below w.heap.size w w' := by
  obtain ⟨L, hL⟩ : ∃ L, (mm.drop k).take cn = L := ⟨_, rfl⟩
  have hLl : L.length = cn := by rw [← hL]; simp; have := hm.hlen; omega
  have hLb : ∀ y ∈ L, 0 ≤ y ∧ y ≤ 255 := fun y hy => Mc.isB_mem hm.isB (List.mem_of_mem_drop (List.mem_of_mem_take (hL ▸ hy)))
  have hLg : ∀ r, r < cn → mm.getD (k + r) 0 = L.getD r 0 := fun r hr => by
    rw [← hL, List.getD_eq_getElem?_getD, List.getD_eq_getElem?_getD, List.getElem?_take_of_lt hr, List.getElem?_drop]
  rw [hL]
  have hwi : ∀ W, Calls Tryd.prog 37 #[.agg #[.int .i64 pl, .int .u64 z0, .int .u64 z1, .int .u64 z2, .int .u64 z3, .int .u64 z4, .int .u64 z5, .int .u64 z6, .int .u64 z7, .slice MA mn mc, .slice OA on oc], .int .i64 a, .int .u64 (Mc.le L)] W fun e w' => e = .returned (.agg (stC ⟨pl + 1, [z0, z1, z2, z3, z4, z5, z6, z7].set a (Mc.le L), mm, op⟩ (.slice MA mn mc) (.slice OA on oc))) ∧ Below W.heap.size W w' := fun W => rwith_any a ha ⟨pl, [z0, z1, z2, z3, z4, z5, z6, z7], mm, op⟩ rfl MA mn mc OA on oc (Mc.le L) W p0 p1
  have h1c : (stC ⟨pl + 1, [z0, z1, z2, z3, z4, z5, z6, z7].set a (Mc.le L), mm, op⟩ (.slice MA mn mc) (.slice OA on oc) : Array Value).all (·.oneCell') = true := by simp [stC, Value.oneCell']
  have hsz : (stC ⟨pl + 1, [z0, z1, z2, z3, z4, z5, z6, z7].set a (Mc.le L), mm, op⟩ (.slice MA mn mc) (.slice OA on oc)).size = 11 := rfl
  generalize stC ⟨pl + 1, [z0, z1, z2, z3, z4, z5, z6, z7].set a (Mc.le L), mm, op⟩ (.slice MA mn mc) (.slice OA on oc) = V2 at *
  have HWI := Lib.hid hwi
  have H1C := Lib.hid h1c
  have HSZ := Lib.hid hsz
  have HLL := Lib.hid hLl
  have HLB := Lib.hid hLb
  have HLG := Lib.hid hLg
  have HM := Lib.hid hm
  have hLz : Mc.le (L.drop cn) = 0 := by rw [← hLl, List.drop_length]; rfl
  have HLZ := Lib.hid hLz
  clear hwi h1c hsz hLl hLb hLg hm hL hLz p0 p1 ha
  have e0 : IntKind.u64.wrap (x + m) = k := by rw [IntKind.wrap_u64, hat]
  have hth : ∀ W, Calls Tryd.prog 50 #[.int .i64 mn, .int .u64 k, .int .i64 cn] W fun e w' => e = .returned (.bool true) ∧ W = w' := fun W => by
    have := rthere_any mn k cn W (by omega) (by omega) (by omega) (by omega)
    have hd : (decide (k + (cn : Int) ≤ (mn : Int)) && decide ((cn : Int) ≤ (mn : Int))) = true := by
      simp
      omega
    rwa [hd] at this
  have h3 := three w (.cells #[.int .i64 17, .int .i64 a, .int .i64 b, .int .i64 cn, .int .u64 m] 59) (.cells #[.int .i64 pl, .int .u64 z0, .int .u64 z1, .int .u64 z2, .int .u64 z3, .int .u64 z4, .int .u64 z5, .int .u64 z6, .int .u64 z7, .slice MA mn mc, .slice OA on oc] 45) (.cells #[.int .i64 0, .int .u64 0, .int .u64 0, .int .u64 0, .int .u64 0, .int .u64 0, .int .u64 0, .int .u64 0, .int .u64 0, .slice none 0 0, .slice none 0 0] 45)
  have hB : Below w.heap.size w (((w.alloc (.cells #[.int .i64 17, .int .i64 a, .int .i64 b, .int .i64 cn, .int .u64 m] 59)).alloc (.cells #[.int .i64 pl, .int .u64 z0, .int .u64 z1, .int .u64 z2, .int .u64 z3, .int .u64 z4, .int .u64 z5, .int .u64 z6, .int .u64 z7, .slice MA mn mc, .slice OA on oc] 45)).alloc (.cells #[.int .i64 0, .int .u64 0, .int .u64 0, .int .u64 0, .int .u64 0, .int .u64 0, .int .u64 0, .int .u64 0, .int .u64 0, .slice none 0 0, .slice none 0 0] 45)) := (((Below.refl _ _).alloc (Nat.le_refl _) _).alloc (by simp) _).alloc (by simp; omega) _
  have h1 := h3.1
  have hz : (((w.alloc (.cells #[.int .i64 17, .int .i64 a, .int .i64 b, .int .i64 cn, .int .u64 m] 59)).alloc (.cells #[.int .i64 pl, .int .u64 z0, .int .u64 z1, .int .u64 z2, .int .u64 z3, .int .u64 z4, .int .u64 z5, .int .u64 z6, .int .u64 z7, .slice MA mn mc, .slice OA on oc] 45)).alloc (.cells #[.int .i64 0, .int .u64 0, .int .u64 0, .int .u64 0, .int .u64 0, .int .u64 0, .int .u64 0, .int .u64 0, .int .u64 0, .slice none 0 0, .slice none 0 0] 45)).heap.size = w.heap.size + 3 := by simp
  have hbz : (b : Int) < 8 := by omega
  have HTH := Lib.hid hth
  clear hth hat
  go_enter Tryd.func38, Tryd.ntmps38
  go_wp2_with fail
  generalize (((w.alloc (.cells #[.int .i64 17, .int .i64 a, .int .i64 b, .int .i64 cn, .int .u64 m] 59)).alloc (.cells #[.int .i64 pl, .int .u64 z0, .int .u64 z1, .int .u64 z2, .int .u64 z3, .int .u64 z4, .int .u64 z5, .int .u64 z6, .int .u64 z7, .slice MA mn mc, .slice OA on oc] 45)).alloc (.cells #[.int .i64 0, .int .u64 0, .int .u64 0, .int .u64 0, .int .u64 0, .int .u64 0, .int .u64 0, .int .u64 0, .int .u64 0, .slice none 0 0, .slice none 0 0] 45)) = w3 at *
  have i2 := row_cell h1 2
  have i4 := row_cell h1 4
  simp at i2 i4
  have cb : w3.cell? ⟨w.heap.size + 1, 1 + b, none⟩ = some (.int .u64 x) := by
    rw [cell_of_row _ _ _ _ _ _ h3.2.1]
    exact hx
  have H1 := Lib.hid h1
  have H3 := Lib.hid h3
  have HB := Lib.hid hB
  have HZ := Lib.hid hz
  clear h1 h3 hB hz hx
  go_quiet (fail)
  have H1' : (w3.drewN nq).heap[w.heap.size]? = _ := H1.out
  have H31 : (w3.drewN nq).heap[w.heap.size + 1]? = _ := H3.out.2.1
  have H32 : (w3.drewN nq).heap[w.heap.size + 1 + 1]? = _ := H3.out.2.2
  have hBd := below_drewN HB.out nq
  generalize w3.drewN nq = w4 at *
  have i0 := row_cell H1' 0
  have i1 := row_cell H1' 1
  have i3 := row_cell H1' 3
  simp at i0 i1 i3
  have x0 := row_cell H31 0
  have x1 := row_cell H31 1
  have x2 := row_cell H31 2
  have x3 := row_cell H31 3
  have x4 := row_cell H31 4
  have x5 := row_cell H31 5
  have x6 := row_cell H31 6
  have x7 := row_cell H31 7
  have x8 := row_cell H31 8
  have x9 := row_cell H31 9
  have x10 := row_cell H31 10
  simp at x0 x1 x2 x3 x4 x5 x6 x7 x8 x9 x10
  have X1 := Lib.hid H31
  have X2 := Lib.hid H32
  have HBD := Lib.hid hBd
  clear H1' H31 H32 hBd i2 i4 cb e0
  go_wp2_with fail
  refine (HTH.out _).mono ?_
  rintro e v ⟨rfl, rfl⟩
  clear x0 x1 x2 x3 x4 x5 x6 x7 x8 x10
  have hcw : IntKind.i64.wrap ((cn : Int) - 1) = cn - 1 := by rw [IntKind.wrap_i64]; omega
  have hkw : IntKind.i64.wrap (k : Int) = k := by rw [IntKind.wrap_i64]; omega
  go_wp2_with fail
  go_loopw [7, 8] (fun y i wr => ∃ (q : Nat) (zz : Int), q ≤ cn ∧ i = .int .i64 zz ∧ zz = (q : Int) - 1 ∧ y = .int .u64 (Mc.le (L.drop q)) ∧ wr = w4) (fun _ i _ => (intOf i + 1).toNat)
  case atStart => exact ⟨cn, (cn : Int) - 1, Nat.le_refl _, rfl, rfl, by rw [HLZ.out], rfl⟩
  case round =>
    obtain ⟨q, zz, hq, rfl, hzz, rfl, hwr⟩ := hrel
    have hwr := hwr.symm
    subst hwr
    by_cases hz : q = 0
    · subst hz
      have hzn : ¬ (0 : Int) ≤ zz := by omega
      rw [List.drop_zero]
      clear x9 hzz hq
      have x0 := row_cell X1.out 0
      have x1 := row_cell X1.out 1
      have x2 := row_cell X1.out 2
      have x3 := row_cell X1.out 3
      have x4 := row_cell X1.out 4
      have x5 := row_cell X1.out 5
      have x6 := row_cell X1.out 6
      have x7 := row_cell X1.out 7
      have x8 := row_cell X1.out 8
      have x9 := row_cell X1.out 9
      have x10 := row_cell X1.out 10
      simp at x0 x1 x2 x3 x4 x5 x6 x7 x8 x9 x10
      go_wp2_with fail
      refine (HWI.out _).mono ?_
      rintro e v ⟨rfl, hb⟩
      have hX9 := (hb.block _ (Array.getElem?_eq_some_iff.1 X2.out).1).trans X2.out
      have HX9 := Lib.hid hX9
      have HBV := Lib.hid (HBD.out.trans (hb.mono HBD.out.size))
      clear hb hX9 x0 x1 x2 x3 x4 x5 x6 x7 x8 x9 x10
      go_wp2_with (first | (with_reducible refine store_r (.tmp 4) (.tmp 55) _ _ V2 HX9.out rfl rfl rfl rfl rfl HSZ.out H1C.out ?_) | fail)
      refine ret_r2 (w.heap.size + 1 + 1) V2 (.int .i64 0) (setRow_heap _ _ _ _ _ _ HX9.out) HSZ.out rfl rfl rfl rfl ?_
      exact ⟨rfl, below_setRowM HBV.out (by omega) _⟩
    · obtain ⟨r, rfl⟩ : ∃ r, q = r + 1 := ⟨q - 1, by omega⟩
      obtain rfl : zz = (r : Int) := by omega
      have hrl : r < L.length := by rw [HLL.out]; omega
      have hld := Mc.le_drop L r hrl
      have hlr := Mc.le_rng (L.drop (r + 1)) fun y hy => HLB.out y (List.mem_of_mem_drop hy)
      have hpw : (256 : Int) ^ (L.drop (r + 1)).length ≤ 256 ^ 7 := by
        have h1 : (L.drop (r + 1)).length ≤ 7 := by rw [List.length_drop, HLL.out]; omega
        have h2 := Nat.pow_le_pow_right (show 0 < 256 by decide) h1
        exact_mod_cast h2
      have h7 : (256 : Int) ^ 7 = 72057594037927936 := by decide
      have hyb := HLB.out (L.getD r 0) (by rw [List.getD_eq_getElem?_getD, List.getElem?_eq_getElem hrl]; exact List.getElem_mem hrl)
      obtain ⟨mb, mo, rfl, hmb, hby⟩ := (HM.out.below HBD.out).mem (by omega)
      have cm := hby.at0 (k + r) (by rw [HM.out.hlen]; omega)
      rw [HLG.out r (by omega)] at cm
      generalize Mc.le (L.drop (r + 1)) = y at *
      generalize L.getD r 0 = u at *
      have w1' : IntKind.u64.wrap (y * 256) = y * 256 := by rw [IntKind.wrap_u64]; omega
      have w2' : IntKind.u64.wrap (y * 256 + u) = y * 256 + u := by rw [IntKind.wrap_u64]; omega
      have w3' : IntKind.u64.wrap u = u := by rw [IntKind.wrap_u64]; omega
      have w4' : IntKind.i64.wrap ((k : Int) + r) = ((k + r : Nat) : Int) := by rw [IntKind.wrap_i64]; omega
      have w5' : IntKind.i64.wrap ((r : Int) - 1) = r - 1 := by rw [IntKind.wrap_i64]; omega
      have hkl : k + r < mn := by omega
      have hr0 : (0 : Int) ≤ r := by omega
      have HLD := Lib.hid hld
      clear hld hlr hpw h7 hyb hby hmb hrl hzz hz
      go_wp2
      go_roundw
      case rel => exact ⟨r, (r : Int) - 1, by omega, by go_num, rfl, by rw [HLD.out]; congr 1; omega, by first | rfl | trivial⟩
      case measure => simp [intOf]
end Go.Proofs.YtfhnigfghfmolaaDoor
namespace Go.Proofs.YtfhnigfghfmolaaDoor
set_option maxRecDepth 100000
open Go.RowKit

theorem own_new (w : World) : (w.alloc (.cells #[] 5)).ownsRow w.heap.size 5 1 (.slice (some ⟨w.heap.size, 0, none⟩) 0 0) 0 [] :=
  ⟨rfl, .inr ⟨w.heap.size, 0, #[], rfl, Nat.le_refl _, heap_alloc_new w _, Nat.le_refl _, Nat.zero_le _, rfl, rfl⟩⟩

theorem own_set {w : World} {base g n cap i : Nat} {xs : List Int} (v : Int) (h : w.ownsRow base 5 1 (.slice (some ⟨g, 0, none⟩) n cap) n (xs.map (Value.int .u8))) : (w.setCell ⟨g, i, none⟩ (.int .u8 v)).ownsRow base 5 1 (.slice (some ⟨g, 0, none⟩) n cap) n ((xs.set i v).map (Value.int .u8)) := by
  rcases h.2 with ⟨e, _⟩ | ⟨g', cap', cur, e, hb, hg, hn, hm, hc, ht⟩
  · cases e
  · cases e
    refine ⟨by have := h.1; simpa using this, .inr ⟨g, cap, cur.setIfInBounds i (.int .u8 v), rfl, hb, Joins.block_setCell hg _, hn, hm, by simpa using hc, ?_⟩⟩
    rw [Array.toList_setIfInBounds, List.take_set, ht, List.map_set]
theorem Mc.bys_snoc : ∀ (q : Nat) (y : Int), 0 ≤ y → Mc.bys (q + 1) y = Mc.bys q y ++ [y / 256 ^ q % 256]
  | 0, y, _ => by simp [Mc.bys]
  | q + 1, y, h => by
    rw [Mc.bys, Mc.bys_snoc q (y / 256) (Int.ediv_nonneg h (by decide)), Mc.bys, List.cons_append]
    rw [Int.ediv_ediv_of_nonneg (by decide), show (256 : Int) * 256 ^ q = 256 ^ (q + 1) by rw [Int.pow_succ, Int.mul_comm]]
theorem Mc.sav_set {mm : List Int} {k q : Nat} {y : Int} (h0 : 0 ≤ y) (h : k + q < mm.length) : (Mc.sav mm k q y).set (k + q) (y / 256 ^ q % 256) = Mc.sav mm k (q + 1) y := by
  unfold Mc.sav
  have hl : (mm.take k ++ Mc.bys q y).length = k + q := by simp [Mc.bys_len]; omega
  rw [List.set_append_right _ _ (by omega), hl, Nat.sub_self, List.drop_eq_getElem_cons h, List.set_cons_zero, Mc.bys_snoc q y h0]
  simp [Nat.add_assoc]
theorem Mc.sav_zero {mm : List Int} {k : Nat} {y : Int} : Mc.sav mm k 0 y = mm := by
  simp [Mc.sav, Mc.bys]

set_option maxRecDepth 20000 in
set_option maxHeartbeats 6400000 in
theorem rmem_save (m : Int) (a b k cn : Nat) (pl : Int) (z0 z1 z2 z3 z4 z5 z6 z7 : Int) (MA : Option Addr) (mn mc : Nat) (OA : Option Addr) (on oc : Nat) (mm : List Int) (x y0 : Int) (w : World) (ha : a < 8) (hb : b < 8) (hx : (#[.int .i64 pl, .int .u64 z0, .int .u64 z1, .int .u64 z2, .int .u64 z3, .int .u64 z4, .int .u64 z5, .int .u64 z6, .int .u64 z7, .slice MA mn mc, .slice OA on oc] : Array Value)[1 + b]? = some (.int .u64 x)) (hy : (#[.int .i64 pl, .int .u64 z0, .int .u64 z1, .int .u64 z2, .int .u64 z3, .int .u64 z4, .int .u64 z5, .int .u64 z6, .int .u64 z7, .slice MA mn mc, .slice OA on oc] : Array Value)[1 + a]? = some (.int .u64 y0)) (hat : (x + m) % 18446744073709551616 = k) (hmn : mn ≤ 1000) (c0 : 0 < cn) (c1 : cn ≤ 8) (ht : k + cn ≤ mn) (hm : BySl w MA mn mc mm) (p0 : 0 ≤ pl) (p1 : pl < 1000000) (y0r : 0 ≤ y0 ∧ y0 < 18446744073709551616) :
    Calls Tryd.prog 38 #[.agg #[.int .i64 18, .int .i64 a, .int .i64 b, .int .i64 cn, .int .u64 m], .agg #[.int .i64 pl, .int .u64 z0, .int .u64 z1, .int .u64 z2, .int .u64 z3, .int .u64 z4, .int .u64 z5, .int .u64 z6, .int .u64 z7, .slice MA mn mc, .slice OA on oc]] w fun e w' => ∃ MA' mc', e = .returned (.tuple #[.agg #[.int .i64 (pl + 1), .int .u64 z0, .int .u64 z1, .int .u64 z2, .int .u64 z3, .int .u64 z4, .int .u64 z5, .int .u64 z6, .int .u64 z7, .slice MA' mn mc', .slice OA on oc], .int .i64 0]) ∧ w'.ownsRow w.heap.size 5 1 (.slice MA' mn mc') mn ((Mc.sav mm k cn y0).map (Value.int .u8)) ∧ Below w.heap.size w w' := by
  have HM := Lib.hid hm
  have HY := Lib.hid hy
  have HY0 := Lib.hid y0r
  have hpw : IntKind.i64.wrap (pl + 1) = pl + 1 := by rw [IntKind.wrap_i64]; omega
  have haz : (a : Int) < 8 := by omega
  clear hm hy y0r
  have e0 : IntKind.u64.wrap (x + m) = k := by rw [IntKind.wrap_u64, hat]
  have hth : ∀ W, Calls Tryd.prog 50 #[.int .i64 mn, .int .u64 k, .int .i64 cn] W fun e w' => e = .returned (.bool true) ∧ W = w' := fun W => by
    have := rthere_any mn k cn W (by omega) (by omega) (by omega) (by omega)
    have hd : (decide (k + (cn : Int) ≤ (mn : Int)) && decide ((cn : Int) ≤ (mn : Int))) = true := by
      simp
      omega
    rwa [hd] at this
  have h3 := three w (.cells #[.int .i64 18, .int .i64 a, .int .i64 b, .int .i64 cn, .int .u64 m] 59) (.cells #[.int .i64 pl, .int .u64 z0, .int .u64 z1, .int .u64 z2, .int .u64 z3, .int .u64 z4, .int .u64 z5, .int .u64 z6, .int .u64 z7, .slice MA mn mc, .slice OA on oc] 45) (.cells #[.int .i64 0, .int .u64 0, .int .u64 0, .int .u64 0, .int .u64 0, .int .u64 0, .int .u64 0, .int .u64 0, .int .u64 0, .slice none 0 0, .slice none 0 0] 45)
  have hB : Below w.heap.size w (((w.alloc (.cells #[.int .i64 18, .int .i64 a, .int .i64 b, .int .i64 cn, .int .u64 m] 59)).alloc (.cells #[.int .i64 pl, .int .u64 z0, .int .u64 z1, .int .u64 z2, .int .u64 z3, .int .u64 z4, .int .u64 z5, .int .u64 z6, .int .u64 z7, .slice MA mn mc, .slice OA on oc] 45)).alloc (.cells #[.int .i64 0, .int .u64 0, .int .u64 0, .int .u64 0, .int .u64 0, .int .u64 0, .int .u64 0, .int .u64 0, .int .u64 0, .slice none 0 0, .slice none 0 0] 45)) := (((Below.refl _ _).alloc (Nat.le_refl _) _).alloc (by simp) _).alloc (by simp; omega) _
  have h1 := h3.1
  have hz : (((w.alloc (.cells #[.int .i64 18, .int .i64 a, .int .i64 b, .int .i64 cn, .int .u64 m] 59)).alloc (.cells #[.int .i64 pl, .int .u64 z0, .int .u64 z1, .int .u64 z2, .int .u64 z3, .int .u64 z4, .int .u64 z5, .int .u64 z6, .int .u64 z7, .slice MA mn mc, .slice OA on oc] 45)).alloc (.cells #[.int .i64 0, .int .u64 0, .int .u64 0, .int .u64 0, .int .u64 0, .int .u64 0, .int .u64 0, .int .u64 0, .int .u64 0, .slice none 0 0, .slice none 0 0] 45)).heap.size = w.heap.size + 3 := by simp
  have hbz : (b : Int) < 8 := by omega
  have HTH := Lib.hid hth
  clear hth hat
  go_enter Tryd.func38, Tryd.ntmps38
  go_wp2_with fail
  generalize (((w.alloc (.cells #[.int .i64 18, .int .i64 a, .int .i64 b, .int .i64 cn, .int .u64 m] 59)).alloc (.cells #[.int .i64 pl, .int .u64 z0, .int .u64 z1, .int .u64 z2, .int .u64 z3, .int .u64 z4, .int .u64 z5, .int .u64 z6, .int .u64 z7, .slice MA mn mc, .slice OA on oc] 45)).alloc (.cells #[.int .i64 0, .int .u64 0, .int .u64 0, .int .u64 0, .int .u64 0, .int .u64 0, .int .u64 0, .int .u64 0, .int .u64 0, .slice none 0 0, .slice none 0 0] 45)) = w3 at *
  have i2 := row_cell h1 2
  have i4 := row_cell h1 4
  simp at i2 i4
  have cb : w3.cell? ⟨w.heap.size + 1, 1 + b, none⟩ = some (.int .u64 x) := by
    rw [cell_of_row _ _ _ _ _ _ h3.2.1]
    exact hx
  have H1 := Lib.hid h1
  have H3 := Lib.hid h3
  have HB := Lib.hid hB
  have HZ := Lib.hid hz
  clear h1 h3 hB hz hx
  go_quiet (fail)
  have H1' : (w3.drewN nq).heap[w.heap.size]? = _ := H1.out
  have H31 : (w3.drewN nq).heap[w.heap.size + 1]? = _ := H3.out.2.1
  have H32 : (w3.drewN nq).heap[w.heap.size + 1 + 1]? = _ := H3.out.2.2
  have hBd := below_drewN HB.out nq
  have hl1 : w.heap.size < (w3.drewN nq).heap.size := by have : (w3.drewN nq).heap.size = w.heap.size + 3 := HZ.out; omega
  have hl3 : w.heap.size + 1 + 1 < (w3.drewN nq).heap.size := by have : (w3.drewN nq).heap.size = w.heap.size + 3 := HZ.out; omega
  have hl2 : w.heap.size + 1 < (w3.drewN nq).heap.size := by have : (w3.drewN nq).heap.size = w.heap.size + 3 := HZ.out; omega
  generalize w3.drewN nq = w4 at *
  have i0 := row_cell H1' 0
  have i1 := row_cell H1' 1
  have i3 := row_cell H1' 3
  simp at i0 i1 i3
  have x0 := row_cell H31 0
  have x1 := row_cell H31 1
  have x2 := row_cell H31 2
  have x3 := row_cell H31 3
  have x4 := row_cell H31 4
  have x5 := row_cell H31 5
  have x6 := row_cell H31 6
  have x7 := row_cell H31 7
  have x8 := row_cell H31 8
  have x9 := row_cell H31 9
  have x10 := row_cell H31 10
  simp at x0 x1 x2 x3 x4 x5 x6 x7 x8 x9 x10
  have X1 := Lib.hid H31
  have X2 := Lib.hid H32
  have HBD := Lib.hid hBd
  clear H1' H31 H32 hBd i2 i4 cb e0
  go_wp2_with fail
  refine (HTH.out _).mono ?_
  rintro e v ⟨rfl, rfl⟩
  have hkw : IntKind.i64.wrap (k : Int) = k := by rw [IntKind.wrap_i64]; omega
  obtain ⟨i0', hi0, hzz0, hzz1, hzz2⟩ := info_parts u8_info
  go_wp2_with (at_builtin
               go_loud (refine wpList_ap (w := w4.alloc (.cells #[] 5)) rfl (.tmp 56) (.tmp 58) _ rfl w4.heap.size 5 i0' _ 1 Tryd.underlying22 hi0 hzz0 hzz1 hzz2 rfl (.slice (some ⟨w4.heap.size, 0, none⟩) 0 0) 0 [] rfl (own_new w4) MA mn mc (mm.map (Value.int .u8)) rfl ((HM.out.below (HBD.out.trans ((Below.box w4 (.cells #[] 5)).mono HBD.out.size))).sl) HM.out.hnone (one_cell mm) (by simp only [maxLen]; omega) (by omega) (by simp) mn (mm.map (Value.int .u8)) (by omega) rfl ?_)
               intro A' cap' v2 hc1 hc2 hown hsl hb2
               go_loud (
                 have bl2 : Below w4.heap.size w4 v2 := (Below.box w4 (.cells #[] 5)).trans hb2
                 have j1 := cells_below bl2 i1 hl1
                 have j3 := cells_below bl2 i3 hl1
                 have ca : v2.cell? ⟨w.heap.size + 1, 1 + a, none⟩ = some (.int .u64 y0) := cells_below bl2 (show w4.cell? ⟨w.heap.size + 1, 1 + a, none⟩ = some (.int .u64 y0) by rw [cell_of_row _ _ _ _ _ _ X1.out]; exact HY.out) hl2
                 obtain ⟨g, rfl, hgb⟩ : ∃ g, A' = some ⟨g, 0, none⟩ ∧ w4.heap.size ≤ g := by
                   rcases hown.2 with ⟨e, _⟩ | ⟨g, cp, cur, e, hgb, _⟩
                   · injection e with e1 e2 e3
                     omega
                   · injection e with e1 e2 e3
                     exact ⟨g, e1, hgb⟩
                 have HOWN := Lib.hid hown
                 have HBL := Lib.hid bl2
                 have HGB := Lib.hid hgb
                 have I1 := Lib.hid i1
                 have I3 := Lib.hid i3
                 clear hown hsl hb2 bl2 hgb i0 i1 i3 x0 x1 x2 x3 x4 x5 x6 x7 x8 x9 x10))
  go_loopw [10, 11] (fun y i wr => ∃ q : Nat, q ≤ cn ∧ i = .int .i64 q ∧ y = .int .u64 (y0 / 256 ^ q) ∧ Below w4.heap.size w4 wr ∧ wr.ownsRow w4.heap.size 5 1 (.slice (some ⟨g, 0, none⟩) mn cap') mn ((Mc.sav mm k q y0).map (Value.int .u8))) (fun _ i _ => cn - (intOf i).toNat)
  case atStart => exact ⟨0, Nat.zero_le _, rfl, by simp, HBL.out, by rw [Mc.sav_zero]; exact HOWN.out⟩
  case round =>
    obtain ⟨q, hq, rfl, rfl, hbr, how⟩ := hrel
    have HBR := Lib.hid hbr
    have HOW := Lib.hid how
    have i3 := cells_below hbr I3.out hl1
    by_cases hqc : q < cn
    · have hqi : (q : Int) < cn := by omega
      obtain ⟨y, hy⟩ : ∃ y, y0 / 256 ^ q = y := ⟨_, rfl⟩
      have hy0 : 0 ≤ y := by rw [← hy]; exact Int.ediv_nonneg HY0.out.1 (Int.le_of_lt (Int.pow_pos (by decide)))
      have hyn : y0 / 256 ^ (q + 1) = y / 256 := by rw [← hy, Int.pow_succ, Int.ediv_ediv_of_nonneg (Int.le_of_lt (Int.pow_pos (by decide)))]
      rw [hy]
      have hrm : y.tmod 256 = y % 256 := Int.tmod_eq_emod_of_nonneg hy0
      have hqt : y.tdiv 256 = y / 256 := Int.tdiv_eq_ediv_of_nonneg hy0
      have hw8 : IntKind.u8.wrap (y % 256) = y % 256 := by rw [IntKind.wrap_u8]; omega
      have e6 : IntKind.i64.wrap ((k : Int) + q) = ((k + q : Nat) : Int) := by rw [IntKind.wrap_i64]; omega
      have hkl : k + q < mn := by omega
      obtain ⟨cur, hcur, hcs⟩ : ∃ cur, wr.heap[g]? = some (.cells cur 5 (0, 0)) ∧ mn ≤ cur.size := by
        rcases how.2 with ⟨e, _⟩ | ⟨g', cp, cur, e, hgb, hg, hn, hm', hc, ht'⟩
        · cases e
        · cases e
          exact ⟨cur, hg, by omega⟩
      have hcell : wr.cell? ⟨g, k + q, none⟩ = some (cur[k + q]'(by omega)) := by
        rw [cell_of_row _ _ _ _ _ _ hcur]
        exact Array.getElem?_eq_getElem (by omega)
      have hfro := Joins.unfrozen_of_block hcur (k + q)
      generalize cur[k + q]'(by omega) = old at hcell
      have hnew := own_set (i := k + q) (y % 256) how
      have hml := HM.out.hlen
      have hset : (Mc.sav mm k q y0).set (k + q) (y % 256) = Mc.sav mm k (q + 1) y0 := by rw [← hy]; exact Mc.sav_set HY0.out.1 (by omega)
      rw [hset] at hnew
      have HNEW := Lib.hid hnew
      have HYN := Lib.hid hyn
      have hyl : y ≤ y0 := by rw [← hy]; exact Int.ediv_le_self _ HY0.out.1
      have hwq : IntKind.u64.wrap (y / 256) = y / 256 := by have := HY0.out.2; rw [IntKind.wrap_u64]; omega
      have HWQ := Lib.hid hwq
      have hbn := hbr.setCell (p := ⟨g, k + q, none⟩) HGB.out (.int .u8 (y % 256))
      have HBN := Lib.hid hbn
      clear hy hyl hwq hy0 hyn hnew hset hbn how hbr hcur hcs hml
      go_wp2
      go_roundw
      case rel => exact ⟨q + 1, by omega, by go_num, by rw [HYN.out, HWQ.out], HBN.out, HNEW.out⟩
      case measure => simp [intOf]; omega
    · have hqn : q = cn := by omega
      have hqi : ¬ (q : Int) < cn := by omega
      have HQN := Lib.hid hqn
      have r1 := (hbr.block _ hl2).trans X1.out
      have r2 := (hbr.block _ hl3).trans X2.out
      have c9 := row_cell r1 9
      have f9 := Joins.unfrozen_of_block r1 9
      have a1 : (wr.setCell ⟨w.heap.size + 1, 9, none⟩ (.slice (some ⟨g, 0, none⟩) mn cap')).heap[w.heap.size + 1]? = some (.cells #[.int .i64 pl, .int .u64 z0, .int .u64 z1, .int .u64 z2, .int .u64 z3, .int .u64 z4, .int .u64 z5, .int .u64 z6, .int .u64 z7, .slice (some ⟨g, 0, none⟩) mn cap', .slice OA on oc] 45 (0, 0)) := Joins.block_setCell r1 _
      have c0' := row_cell a1 0
      have f0 := Joins.unfrozen_of_block a1 0
      have b1 : ((wr.setCell ⟨w.heap.size + 1, 9, none⟩ (.slice (some ⟨g, 0, none⟩) mn cap')).setCell ⟨w.heap.size + 1, 0, none⟩ (.int .i64 (pl + 1))).heap[w.heap.size + 1]? = some (.cells #[.int .i64 (pl + 1), .int .u64 z0, .int .u64 z1, .int .u64 z2, .int .u64 z3, .int .u64 z4, .int .u64 z5, .int .u64 z6, .int .u64 z7, .slice (some ⟨g, 0, none⟩) mn cap', .slice OA on oc] 45 (0, 0)) := Joins.block_setCell a1 _
      have b2 : ((wr.setCell ⟨w.heap.size + 1, 9, none⟩ (.slice (some ⟨g, 0, none⟩) mn cap')).setCell ⟨w.heap.size + 1, 0, none⟩ (.int .i64 (pl + 1))).heap[w.heap.size + 1 + 1]? = _ := (Below.heap_setCell _ _ _ _ (by simp)).trans ((Below.heap_setCell _ _ _ _ (by simp)).trans r2)
      simp at c9 c0'
      have x0 := row_cell b1 0
      have x1 := row_cell b1 1
      have x2 := row_cell b1 2
      have x3 := row_cell b1 3
      have x4 := row_cell b1 4
      have x5 := row_cell b1 5
      have x6 := row_cell b1 6
      have x7 := row_cell b1 7
      have x8 := row_cell b1 8
      have x9 := row_cell b1 9
      have x10 := row_cell b1 10
      simp at x0 x1 x2 x3 x4 x5 x6 x7 x8 x9 x10
      have hbz' : Below w.heap.size w ((wr.setCell ⟨w.heap.size + 1, 9, none⟩ (.slice (some ⟨g, 0, none⟩) mn cap')).setCell ⟨w.heap.size + 1, 0, none⟩ (.int .i64 (pl + 1))) := ((HBD.out.trans (hbr.mono HBD.out.size)).setCell (by simp) _).setCell (by simp) _
      have hown' := ownsRow.blk how (w' := ((wr.setCell ⟨w.heap.size + 1, 9, none⟩ (.slice (some ⟨g, 0, none⟩) mn cap')).setCell ⟨w.heap.size + 1, 0, none⟩ (.int .i64 (pl + 1))).setRow (w.heap.size + 1 + 1) #[.int .i64 (pl + 1), .int .u64 z0, .int .u64 z1, .int .u64 z2, .int .u64 z3, .int .u64 z4, .int .u64 z5, .int .u64 z6, .int .u64 z7, .slice (some ⟨g, 0, none⟩) mn cap', .slice OA on oc]) fun j hj => by
        simp [Value.ownBlock] at hj
        subst hj
        have := HGB.out
        rw [setRow_other _ _ _ _ (by omega), Below.heap_setCell _ _ _ _ (by simp; omega), Below.heap_setCell _ _ _ _ (by simp; omega)]
      rw [hqn] at hown'
      have HOWN' := Lib.hid hown'
      have HBZ := Lib.hid hbz'
      have B2 := Lib.hid b2
      have h1c : (#[.int .i64 (pl + 1), .int .u64 z0, .int .u64 z1, .int .u64 z2, .int .u64 z3, .int .u64 z4, .int .u64 z5, .int .u64 z6, .int .u64 z7, .slice (some ⟨g, 0, none⟩) mn cap', .slice OA on oc] : Array Value).all (·.oneCell') = true := by simp [Value.oneCell']
      have H1C := Lib.hid h1c
      have HL1 := Lib.hid hl1
      clear r1 r2 a1 b1 b2 hbz' hown' how hbr h1c hqn
      go_wp2_with (first | (with_reducible refine store_r (.tmp 4) (.tmp 88) _ _ #[.int .i64 (pl + 1), .int .u64 z0, .int .u64 z1, .int .u64 z2, .int .u64 z3, .int .u64 z4, .int .u64 z5, .int .u64 z6, .int .u64 z7, .slice (some ⟨g, 0, none⟩) mn cap', .slice OA on oc] B2.out rfl rfl rfl rfl rfl rfl H1C.out ?_) | fail)
      refine ret_r2 (w.heap.size + 1 + 1) #[.int .i64 (pl + 1), .int .u64 z0, .int .u64 z1, .int .u64 z2, .int .u64 z3, .int .u64 z4, .int .u64 z5, .int .u64 z6, .int .u64 z7, .slice (some ⟨g, 0, none⟩) mn cap', .slice OA on oc] (.int .i64 0) (setRow_heap _ _ _ _ _ _ B2.out) rfl rfl rfl rfl rfl ?_
      exact ⟨some ⟨g, 0, none⟩, cap', rfl, Joins.ownsRow_le HOWN'.out (Nat.le_of_lt HL1.out), below_setRowM HBZ.out (by omega) _⟩
end Go.Proofs.YtfhnigfghfmolaaDoor
namespace Go.Proofs.YtfhnigfghfmolaaDoor
set_option maxRecDepth 100000
open Go.RowKit

theorem i64_infoR : (Tryd.prog.info? 3).map (fun i => (i.zero, i.size, i.bytes)) = some (some (.int .i64 0), 1, 8) := by kernel_rfl
theorem own_newI (w : World) : (w.alloc (.cells #[] 3)).ownsRow w.heap.size 3 1 (.slice (some ⟨w.heap.size, 0, none⟩) 0 0) 0 [] :=
  ⟨rfl, .inr ⟨w.heap.size, 0, #[], rfl, Nat.le_refl _, heap_alloc_new w _, Nat.le_refl _, Nat.zero_le _, rfl, rfl⟩⟩
theorem four' (w : World) (o0 o1 o2 o3 : Obj) : ((((w.alloc o0).alloc o1).alloc o2).alloc o3).heap[w.heap.size]? = some o0 ∧ ((((w.alloc o0).alloc o1).alloc o2).alloc o3).heap[w.heap.size + 1]? = some o1 ∧ ((((w.alloc o0).alloc o1).alloc o2).alloc o3).heap[w.heap.size + 1 + 1]? = some o2 ∧ ((((w.alloc o0).alloc o1).alloc o2).alloc o3).heap[w.heap.size + 1 + 1 + 1]? = some o3 := by
  have h := three (w.alloc o0) o1 o2 o3
  have e : (w.alloc o0).heap.size = w.heap.size + 1 := by simp
  rw [e] at h
  refine ⟨?_, h⟩
  exact ((((Below.box (w.alloc o0) o1).block _ (by simp)).symm.trans rfl).symm.trans (heap_newM rfl)) |> fun h0 => ((Below.box (((w.alloc o0).alloc o1).alloc o2) o3).block _ (by simp; omega)).trans (((Below.box ((w.alloc o0).alloc o1) o2).block _ (by simp; omega)).trans h0)

set_option maxRecDepth 20000 in
set_option maxHeartbeats 6400000 in
theorem rflow_back (mem stk inp : Int) (Ad : Option Addr) (ld cd : Nat) (Af : Option Addr) (lf cf : Nat) (Ac : Option Addr) (lc cc : Nat) (a b c m : Int) (pl : Int) (z0 z1 z2 z3 z4 z5 z6 z7 : Int) (MA : Option Addr) (mn mc : Nat) (ob oo on oc j : Nat) (op : List Int) (w : World) (hO : InSl w (some ⟨ob, oo, none⟩) on oc op) (hj : on = j + 1) (hon : on ≤ 1000) :
    Calls Tryd.prog 39 #[.agg #[.int .i64 mem, .int .i64 stk, .int .i64 inp, .slice Ad ld cd, .slice Af lf cf, .slice Ac lc cc], .agg #[.int .i64 24, .int .i64 a, .int .i64 b, .int .i64 c, .int .u64 m], .agg #[.int .i64 pl, .int .u64 z0, .int .u64 z1, .int .u64 z2, .int .u64 z3, .int .u64 z4, .int .u64 z5, .int .u64 z6, .int .u64 z7, .slice MA mn mc, .slice (some ⟨ob, oo, none⟩) on oc]] w fun e w' => ∃ O' oc', e = .returned (.tuple #[.agg #[.int .i64 (op.getD j 0), .int .u64 z0, .int .u64 z1, .int .u64 z2, .int .u64 z3, .int .u64 z4, .int .u64 z5, .int .u64 z6, .int .u64 z7, .slice MA mn mc, .slice O' j oc'], .int .i64 0]) ∧ w'.ownsRow w.heap.size 3 1 (.slice O' j oc') j (op.dropLast.map (Value.int .i64)) ∧ Below w.heap.size w w' := by
  have h4 := four' w (.cells #[.int .i64 mem, .int .i64 stk, .int .i64 inp, .slice Ad ld cd, .slice Af lf cf, .slice Ac lc cc] 26) (.cells #[.int .i64 24, .int .i64 a, .int .i64 b, .int .i64 c, .int .u64 m] 59) (.cells #[.int .i64 pl, .int .u64 z0, .int .u64 z1, .int .u64 z2, .int .u64 z3, .int .u64 z4, .int .u64 z5, .int .u64 z6, .int .u64 z7, .slice MA mn mc, .slice (some ⟨ob, oo, none⟩) on oc] 45) (.cells #[.int .i64 0, .int .u64 0, .int .u64 0, .int .u64 0, .int .u64 0, .int .u64 0, .int .u64 0, .int .u64 0, .int .u64 0, .slice none 0 0, .slice none 0 0] 45)
  have hB : Below w.heap.size w ((((w.alloc (.cells #[.int .i64 mem, .int .i64 stk, .int .i64 inp, .slice Ad ld cd, .slice Af lf cf, .slice Ac lc cc] 26)).alloc (.cells #[.int .i64 24, .int .i64 a, .int .i64 b, .int .i64 c, .int .u64 m] 59)).alloc (.cells #[.int .i64 pl, .int .u64 z0, .int .u64 z1, .int .u64 z2, .int .u64 z3, .int .u64 z4, .int .u64 z5, .int .u64 z6, .int .u64 z7, .slice MA mn mc, .slice (some ⟨ob, oo, none⟩) on oc] 45)).alloc (.cells #[.int .i64 0, .int .u64 0, .int .u64 0, .int .u64 0, .int .u64 0, .int .u64 0, .int .u64 0, .int .u64 0, .int .u64 0, .slice none 0 0, .slice none 0 0] 45)) := ((((Below.refl _ _).alloc (Nat.le_refl _) _).alloc (by simp) _).alloc (by simp; omega) _).alloc (by simp; omega) _
  have hz : ((((w.alloc (.cells #[.int .i64 mem, .int .i64 stk, .int .i64 inp, .slice Ad ld cd, .slice Af lf cf, .slice Ac lc cc] 26)).alloc (.cells #[.int .i64 24, .int .i64 a, .int .i64 b, .int .i64 c, .int .u64 m] 59)).alloc (.cells #[.int .i64 pl, .int .u64 z0, .int .u64 z1, .int .u64 z2, .int .u64 z3, .int .u64 z4, .int .u64 z5, .int .u64 z6, .int .u64 z7, .slice MA mn mc, .slice (some ⟨ob, oo, none⟩) on oc] 45)).alloc (.cells #[.int .i64 0, .int .u64 0, .int .u64 0, .int .u64 0, .int .u64 0, .int .u64 0, .int .u64 0, .int .u64 0, .int .u64 0, .slice none 0 0, .slice none 0 0] 45)).heap.size = w.heap.size + 4 := by simp
  obtain ⟨q, hq⟩ : ∃ q, op.getD j 0 = q := ⟨_, rfl⟩
  rw [hq]
  have hwj : IntKind.i64.wrap ((on : Int) - 1) = (j : Int) := by rw [IntKind.wrap_i64]; omega
  have hjn : j < on := by omega
  have hon0 : ((on : Int) == 0) = false := by have : ¬ (on : Int) = 0 := by omega
                                              simpa using this
  have hjc : j ≤ oc := by have := hO.hle; omega
  have HO := Lib.hid hO
  have HQ := Lib.hid hq
  have HJ := Lib.hid hj
  have H4 := Lib.hid h4
  have HB := Lib.hid hB
  have HZ := Lib.hid hz
  clear hO hq hj h4 hB hz
  go_enter Tryd.func39, Tryd.ntmps39
  go_upto_region 16 with (fail)
  generalize ((((w.alloc (.cells #[.int .i64 mem, .int .i64 stk, .int .i64 inp, .slice Ad ld cd, .slice Af lf cf, .slice Ac lc cc] 26)).alloc (.cells #[.int .i64 24, .int .i64 a, .int .i64 b, .int .i64 c, .int .u64 m] 59)).alloc (.cells #[.int .i64 pl, .int .u64 z0, .int .u64 z1, .int .u64 z2, .int .u64 z3, .int .u64 z4, .int .u64 z5, .int .u64 z6, .int .u64 z7, .slice MA mn mc, .slice (some ⟨ob, oo, none⟩) on oc] 45)).alloc (.cells #[.int .i64 0, .int .u64 0, .int .u64 0, .int .u64 0, .int .u64 0, .int .u64 0, .int .u64 0, .int .u64 0, .int .u64 0, .slice none 0 0, .slice none 0 0] 45)) = w4 at *
  have r2 := H4.out.2.2.1
  have r3 := H4.out.2.2.2
  have c0 := row_cell r2 0
  have f0 := Joins.unfrozen_of_block r2 0
  have x10 := row_cell r2 10
  simp at c0 x10
  obtain ⟨_, _, he, hob, hco⟩ := (HO.out.below HB.out).mem (by omega)
  injection he with he
  injection he with he1 he2
  subst he1 he2
  have cq := hco j hjn
  rw [HQ.out] at cq
  have a2 : (w4.setCell ⟨w.heap.size + 1 + 1, 0, none⟩ (.int .i64 q)).heap[w.heap.size + 1 + 1]? = some (.cells #[.int .i64 q, .int .u64 z0, .int .u64 z1, .int .u64 z2, .int .u64 z3, .int .u64 z4, .int .u64 z5, .int .u64 z6, .int .u64 z7, .slice MA mn mc, .slice (some ⟨ob, oo, none⟩) on oc] 45 (0, 0)) := Joins.block_setCell r2 _
  have a3 : (w4.setCell ⟨w.heap.size + 1 + 1, 0, none⟩ (.int .i64 q)).heap[w.heap.size + 1 + 1 + 1]? = some (.cells #[.int .i64 0, .int .u64 0, .int .u64 0, .int .u64 0, .int .u64 0, .int .u64 0, .int .u64 0, .int .u64 0, .int .u64 0, .slice none 0 0, .slice none 0 0] 45 (0, 0)) := (Below.heap_setCell _ _ _ _ (by simp)).trans r3
  have hb5 : Below w.heap.size w (w4.setCell ⟨w.heap.size + 1 + 1, 0, none⟩ (.int .i64 q)) := HB.out.setCell (by simp; omega) _
  have hl5 : w.heap.size + 1 + 1 + 1 < (w4.setCell ⟨w.heap.size + 1 + 1, 0, none⟩ (.int .i64 q)).heap.size := by have := HZ.out; simp; omega
  have A2 := Lib.hid a2
  have A3 := Lib.hid a3
  have HB5 := Lib.hid hb5
  have HL5 := Lib.hid hl5
  clear r2 r3 hco hob a2 a3 hb5 hl5
  go_upto_region 17 with (fail)
  generalize w4.setCell ⟨w.heap.size + 1 + 1, 0, none⟩ (.int .i64 q) = w5 at *
  clear c0 f0 x10 cq
  have x10 := row_cell A2.out 10
  simp at x10
  have hl2 : w.heap.size + 1 + 1 < w5.heap.size := by have := HL5.out; omega
  obtain ⟨i0', hi0, hzz0, hzz1, hzz2⟩ := info_parts i64_infoR
  have hdl : (op.dropLast).length = j := by rw [List.length_dropLast, HO.out.hlen]; have := HJ.out; omega
  have hsl : Sl (w5.alloc (.cells #[] 3)) (some ⟨ob, oo, none⟩) j (op.dropLast.map (Value.int .i64)) := ⟨by simpa using hdl, fun h0 => by
    have hb6 := HB5.out.trans ((Below.box w5 (.cells #[] 3)).mono HB5.out.size)
    have hs := (HO.out.below hb6).sl
    obtain ⟨b', o', he, hlt, hc⟩ := hs.2 (by omega)
    refine ⟨b', o', he, hlt, fun i u hu => hc i u ?_⟩
    have hil : i < (op.dropLast).length := by
      rcases Nat.lt_or_ge i (op.dropLast).length with h | h
      · exact h
      · rw [List.getElem?_eq_none (by simpa using h)] at hu; cases hu
    rw [List.getElem?_map] at hu ⊢
    rw [← hu, List.getElem?_dropLast, if_pos (by rw [List.length_dropLast] at hil; exact hil)]⟩
  have HSL := Lib.hid hsl
  clear hsl hdl
  go_wp2_with (first
    | (at_builtin
       refine wpList_ap (w := w5.alloc (.cells #[] 3)) rfl (.tmp 74) (.tmp 81) _ rfl w5.heap.size 3 i0' _ 8 Tryd.underlying23 hi0 hzz0 hzz1 hzz2 rfl (.slice (some ⟨w5.heap.size, 0, none⟩) 0 0) 0 [] rfl (own_newI w5) (some ⟨ob, oo, none⟩) j oc (op.dropLast.map (Value.int .i64)) rfl HSL.out (by simp) (one_cell64M _) (by simp only [maxLen]; omega) (by omega) (by simp) j (op.dropLast.map (Value.int .i64)) (by omega) rfl ?_
       intro A' cap' v2 hc1 hc2 hown hsl hb2
       have bl2 : Below w5.heap.size w5 v2 := (Below.box w5 (.cells #[] 3)).trans hb2
       have s2 := (bl2.block _ hl2).trans A2.out
       have s3 := (bl2.block _ HL5.out).trans A3.out
       have d10 := row_cell s2 10
       have g10 := Joins.unfrozen_of_block s2 10
       simp at d10
       have t2 : (v2.setCell ⟨w.heap.size + 1 + 1, 10, none⟩ (.slice A' j cap')).heap[w.heap.size + 1 + 1]? = some (.cells #[.int .i64 q, .int .u64 z0, .int .u64 z1, .int .u64 z2, .int .u64 z3, .int .u64 z4, .int .u64 z5, .int .u64 z6, .int .u64 z7, .slice MA mn mc, .slice A' j cap'] 45 (0, 0)) := Joins.block_setCell s2 _
       have t3 : (v2.setCell ⟨w.heap.size + 1 + 1, 10, none⟩ (.slice A' j cap')).heap[w.heap.size + 1 + 1 + 1]? = some (.cells #[.int .i64 0, .int .u64 0, .int .u64 0, .int .u64 0, .int .u64 0, .int .u64 0, .int .u64 0, .int .u64 0, .int .u64 0, .slice none 0 0, .slice none 0 0] 45 (0, 0)) := (Below.heap_setCell _ _ _ _ (by simp)).trans s3
       have T3 := Lib.hid t3
       have hb7 := (HB5.out.trans (bl2.mono HB5.out.size)).setCell (p := ⟨w.heap.size + 1 + 1, 10, none⟩) (by simp; omega) (.slice A' j cap')
       have HB7 := Lib.hid hb7
       have HOWN := Lib.hid hown
       have HC1 := Lib.hid (And.intro hc1 hc2)
       have x0 := row_cell t2 0
       have x1 := row_cell t2 1
       have x2 := row_cell t2 2
       have x3 := row_cell t2 3
       have x4 := row_cell t2 4
       have x5 := row_cell t2 5
       have x6 := row_cell t2 6
       have x7 := row_cell t2 7
       have x8 := row_cell t2 8
       have x9 := row_cell t2 9
       have x10 := row_cell t2 10
       simp at x0 x1 x2 x3 x4 x5 x6 x7 x8 x9 x10
       clear s2 s3 t2 t3 hown hsl hb2 bl2 hb7 x10 hc1 hc2
       have h1c : (#[.int .i64 q, .int .u64 z0, .int .u64 z1, .int .u64 z2, .int .u64 z3, .int .u64 z4, .int .u64 z5, .int .u64 z6, .int .u64 z7, .slice MA mn mc, .slice A' j cap'] : Array Value).all (·.oneCell') = true := by simp [Value.oneCell']
       have H1C := Lib.hid h1c
       clear h1c)
    | (with_reducible refine store_r (.tmp 6) (.tmp 84) _ _ #[.int .i64 q, .int .u64 z0, .int .u64 z1, .int .u64 z2, .int .u64 z3, .int .u64 z4, .int .u64 z5, .int .u64 z6, .int .u64 z7, .slice MA mn mc, .slice A' j cap'] T3.out rfl rfl rfl rfl rfl rfl H1C.out ?_))
  refine ret_r2 (w.heap.size + 1 + 1 + 1) #[.int .i64 q, .int .u64 z0, .int .u64 z1, .int .u64 z2, .int .u64 z3, .int .u64 z4, .int .u64 z5, .int .u64 z6, .int .u64 z7, .slice MA mn mc, .slice A' j cap'] (.int .i64 0) (setRow_heap _ _ _ _ _ _ T3.out) rfl rfl rfl rfl rfl ?_
  refine ⟨A', cap', rfl, ?_, below_setRowM HB7.out (by omega) _⟩
  rw [← List.map_dropLast]
  refine Joins.ownsRow_le (ownsRow.blk HOWN.out fun k hk => ?_) HB5.out.size
  have := (HOWN.out.lt k hk).1
  have := HL5.out
  rw [setRow_other _ _ _ _ (by omega), Below.heap_setCell _ _ _ _ (by simp; omega)]
end Go.Proofs.YtfhnigfghfmolaaDoor
namespace Go.Proofs.YtfhnigfghfmolaaDoor
set_option maxRecDepth 100000
open Go.RowKit

theorem Mc.mem0_get {p : Im.Pic} {q : Nat} (h : q < p.mem.toNat) (hl : p.ds.length ≤ p.mem.toNat) : (Mc.mem0 p).getD q 0 = if q < p.ds.length then p.ds.getD q 0 else 0 := by
  unfold Mc.mem0
  split
  · rename_i h1
    rw [List.getD_eq_getElem?_getD, List.getElem?_append_left h1, ← List.getD_eq_getElem?_getD]
  · rename_i h1
    rw [List.getD_eq_getElem?_getD, List.getElem?_append_right (by omega), List.getElem?_replicate]
    split <;> rfl
set_option maxRecDepth 20000 in
set_option maxHeartbeats 6400000 in
theorem rstart_any (n : Nat) (stk inp : Int) (Ad : Option Addr) (ld cd : Nat) (Af : Option Addr) (lf cf : Nat) (Ac : Option Addr) (lc cc : Nat) (p : Im.Pic) (w : World) (hd : BySl w Ad ld cd p.ds) (e0 : p.mem = n) (m1 : n ≤ 64) (hdl : ld ≤ n) :
    Calls Tryd.prog 23 #[.agg #[.int .i64 n, .int .i64 stk, .int .i64 inp, .slice Ad ld cd, .slice Af lf cf, .slice Ac lc cc]] w fun e w' => ∃ A cap, e = .returned (.agg #[.int .i64 0, .int .u64 0, .int .u64 0, .int .u64 0, .int .u64 0, .int .u64 0, .int .u64 0, .int .u64 0, .int .u64 0, .slice A n cap, .slice none 0 0]) ∧ w'.ownsRow w.heap.size 5 1 (.slice A n cap) n ((Mc.mem0 p).map (Value.int .u8)) ∧ Below w.heap.size w w' := by
  have hB : Below w.heap.size w (((w.alloc (.cells #[.int .i64 n, .int .i64 stk, .int .i64 inp, .slice Ad ld cd, .slice Af lf cf, .slice Ac lc cc] 26)).alloc (.cells #[.int .i64 0, .int .u64 0, .int .u64 0, .int .u64 0, .int .u64 0, .int .u64 0, .int .u64 0, .int .u64 0, .int .u64 0, .slice none 0 0, .slice none 0 0] 45)).alloc (.cells #[.int .i64 0, .int .u64 0, .int .u64 0, .int .u64 0, .int .u64 0, .int .u64 0, .int .u64 0, .int .u64 0, .int .u64 0, .slice none 0 0, .slice none 0 0] 45)) := (((Below.refl _ _).alloc (Nat.le_refl _) _).alloc (by simp) _).alloc (by simp; omega) _
  have h3 := three w (.cells #[.int .i64 n, .int .i64 stk, .int .i64 inp, .slice Ad ld cd, .slice Af lf cf, .slice Ac lc cc] 26) (.cells #[.int .i64 0, .int .u64 0, .int .u64 0, .int .u64 0, .int .u64 0, .int .u64 0, .int .u64 0, .int .u64 0, .int .u64 0, .slice none 0 0, .slice none 0 0] 45) (.cells #[.int .i64 0, .int .u64 0, .int .u64 0, .int .u64 0, .int .u64 0, .int .u64 0, .int .u64 0, .int .u64 0, .int .u64 0, .slice none 0 0, .slice none 0 0] 45)
  have hz : (((w.alloc (.cells #[.int .i64 n, .int .i64 stk, .int .i64 inp, .slice Ad ld cd, .slice Af lf cf, .slice Ac lc cc] 26)).alloc (.cells #[.int .i64 0, .int .u64 0, .int .u64 0, .int .u64 0, .int .u64 0, .int .u64 0, .int .u64 0, .int .u64 0, .int .u64 0, .slice none 0 0, .slice none 0 0] 45)).alloc (.cells #[.int .i64 0, .int .u64 0, .int .u64 0, .int .u64 0, .int .u64 0, .int .u64 0, .int .u64 0, .int .u64 0, .int .u64 0, .slice none 0 0, .slice none 0 0] 45)).heap.size = w.heap.size + 3 := by simp
  have hml : (Mc.mem0 p).length = n := by unfold Mc.mem0; have := hd.hlen; simp; omega
  have hmg : ∀ q, q < n → (Mc.mem0 p).getD q 0 = if q < ld then p.ds.getD q 0 else 0 := fun q hq => by
    rw [Mc.mem0_get (by omega) (by have := hd.hlen; omega), hd.hlen]
  generalize Mc.mem0 p = L at *
  have HD := Lib.hid hd
  have HML := Lib.hid hml
  have HMG := Lib.hid hmg
  have H3 := Lib.hid h3
  have HB := Lib.hid hB
  have HZ := Lib.hid hz
  clear hd hml hmg h3 hB hz e0
  go_enter Tryd.func23, Tryd.ntmps23
  go_wp2_with fail
  generalize (((w.alloc (.cells #[.int .i64 n, .int .i64 stk, .int .i64 inp, .slice Ad ld cd, .slice Af lf cf, .slice Ac lc cc] 26)).alloc (.cells #[.int .i64 0, .int .u64 0, .int .u64 0, .int .u64 0, .int .u64 0, .int .u64 0, .int .u64 0, .int .u64 0, .int .u64 0, .slice none 0 0, .slice none 0 0] 45)).alloc (.cells #[.int .i64 0, .int .u64 0, .int .u64 0, .int .u64 0, .int .u64 0, .int .u64 0, .int .u64 0, .int .u64 0, .int .u64 0, .slice none 0 0, .slice none 0 0] 45)) = w3 at *
  go_loopw [4, 5] (fun i _ wr => ∃ q A cap, q ≤ n ∧ i = .int .i64 (q : Nat) ∧ Below (w.heap.size + 2) w3 wr ∧ wr.heap[w.heap.size + 1 + 1]? = some (.cells #[.int .i64 0, .int .u64 0, .int .u64 0, .int .u64 0, .int .u64 0, .int .u64 0, .int .u64 0, .int .u64 0, .int .u64 0, .slice A q cap, .slice none 0 0] 45 (0, 0)) ∧ wr.ownsRow (w.heap.size + 3) 5 1 (.slice A q cap) q ((L.take q).map (Value.int .u8))) (fun i _ _ => n - (intOf i).toNat)
  case atStart => exact ⟨0, none, 0, Nat.zero_le _, rfl, Below.refl _ _, H3.out.2.2, World.ownsRow_nil _ _ _ _⟩
  case round =>
    obtain ⟨q, A, cap, hq, rfl, hbr, hst, how⟩ := hrel
    have HBR := Lib.hid hbr
    have HST := Lib.hid hst
    have j0 := cells_below hbr (row_cell H3.out.1 0) (by omega)
    have j3 := cells_below hbr (row_cell H3.out.1 3) (by omega)
    have x9 := row_cell hst 9
    simp at j0 j3 x9
    by_cases hqn : q < n
    case neg =>
      have hqi : ¬ (q : Int) < n := by omega
      have hqe : q = n := by omega
      have HQE := Lib.hid hqe
      have HOW := Lib.hid how
      have hr := (hbr.block _ (by omega)).trans H3.out.2.1
      have X1 := Lib.hid hr
      have h1c : (#[.int .i64 0, .int .u64 0, .int .u64 0, .int .u64 0, .int .u64 0, .int .u64 0, .int .u64 0, .int .u64 0, .int .u64 0, .slice A q cap, .slice none 0 0] : Array Value).all (·.oneCell') = true := by simp [Value.oneCell']
      have H1C := Lib.hid h1c
      have x0 := row_cell hst 0
      have x1 := row_cell hst 1
      have x2 := row_cell hst 2
      have x3 := row_cell hst 3
      have x4 := row_cell hst 4
      have x5 := row_cell hst 5
      have x6 := row_cell hst 6
      have x7 := row_cell hst 7
      have x8 := row_cell hst 8
      have x9 := row_cell hst 9
      have x10 := row_cell hst 10
      simp at x0 x1 x2 x3 x4 x5 x6 x7 x8 x9 x10
      clear hbr hst how hr h1c hqe
      go_wp2_with (first | (with_reducible refine store_r (.tmp 2) (.tmp 29) _ _ #[.int .i64 0, .int .u64 0, .int .u64 0, .int .u64 0, .int .u64 0, .int .u64 0, .int .u64 0, .int .u64 0, .int .u64 0, .slice A q cap, .slice none 0 0] X1.out rfl rfl rfl rfl rfl rfl H1C.out ?_) | fail)
      refine ret_r (w.heap.size + 1) #[.int .i64 0, .int .u64 0, .int .u64 0, .int .u64 0, .int .u64 0, .int .u64 0, .int .u64 0, .int .u64 0, .int .u64 0, .slice A q cap, .slice none 0 0] (setRow_heap _ _ _ _ _ _ X1.out) rfl rfl rfl rfl ?_
      have hqe := HQE.out
      subst hqe
      refine ⟨A, cap, rfl, ?_, below_setRowM (HB.out.trans (HBR.out.mono (by omega))) (by omega) _⟩
      have h := HOW.out
      rw [List.take_of_length_le (by rw [HML.out]; exact Nat.le_refl _)] at h
      refine Joins.ownsRow_le (ownsRow.blk h fun k hk => ?_) (by omega)
      have := (h.lt k hk).1
      exact setRow_other _ _ _ _ (by omega)
    have hqi : (q : Int) < n := by omega
    clear hbr
    by_cases hql : q < ld
    · have hqli : (q : Int) < ld := by omega
      obtain ⟨b, o, rfl, hob, hby⟩ := (HD.out.below (HB.out.trans (HBR.out.mono (by omega)))).mem (by omega)
      have cm := hby.at0 q (by rw [HD.out.hlen]; exact hql)
      obtain ⟨v, hv⟩ : ∃ v, p.ds.getD q 0 = v := ⟨_, rfl⟩
      rw [hv] at cm
      have HGV := Lib.hid (show L.getD q 0 = v by rw [HMG.out q hqn, if_pos hql, hv])
      clear hby hob hv
      obtain ⟨i0', hi0, hzz0, hzz1, hzz2⟩ := info_parts u8_info
      have hown0 := how.alloc (.cells #[.int .u8 v] 5)
      have HOW0 := Lib.hid hown0
      have hsz' : w.heap.size + 3 ≤ wr.heap.size := by have := HBR.out.size; have := HZ.out; omega
      have HSZ := Lib.hid hsz'
      have htk : (L.take q).map (Value.int .u8) ++ [.int .u8 v] = (L.take (q + 1)).map (Value.int .u8) := by
        have hql : q < L.length := by rw [HML.out]; exact hqn
        rw [List.take_add_one, List.getElem?_eq_getElem hql, List.map_append]
        have hgv := HGV.out
        rw [List.getD_eq_getElem?_getD, List.getElem?_eq_getElem hql] at hgv
        simp only [Option.getD_some] at hgv
        simp [hgv]
      have HTK := Lib.hid htk
      clear hown0 hsz' htk how hst
      go_wp2_with (at_builtin
                   refine wpList_ap (w := wr.alloc (.cells #[.int .u8 v] 5)) rfl (.tmp 24) (.tmp 26) _ rfl (w.heap.size + 3) 5 i0' _ 1 Tryd.underlying22 hi0 hzz0 hzz1 hzz2 rfl (.slice A q cap) q ((L.take q).map (Value.int .u8)) rfl HOW0.out (some ⟨wr.heap.size, 0, none⟩) 1 1 [.int .u8 v] rfl (Sl.new wr [.int .u8 v] 5) (by simp) (one_cell [v]) (by simp only [maxLen]; omega) (by omega) (by have := HSZ.out; simp; omega) (q + 1) ((L.take (q + 1)).map (Value.int .u8)) rfl HTK.out ?_
                   intro A' cap' v2 hc1 hc2 hown hsl hb2
                   have bl2 : Below (w.heap.size + 3) wr v2 := ((Below.box wr (.cells #[.int .u8 v] 5)).mono HSZ.out).trans hb2
                   have s2 := (bl2.block _ (by omega)).trans HST.out
                   have c9 := row_cell s2 9
                   have f9 := Joins.unfrozen_of_block s2 9
                   simp at c9
                   have S2 := Lib.hid s2
                   have BL2 := Lib.hid bl2
                   have HOWN := Lib.hid hown
                   have HC1 := Lib.hid (And.intro hc1 hc2)
                   clear hown hsl hb2 bl2 s2 hc1 hc2)
      go_roundw
      case rel =>
        refine ⟨q + 1, A', cap', by omega, by go_num, ((HBR.out).trans (BL2.out.mono (by omega))).setCell (by simp) _, Joins.block_setCell S2.out _, ownsRow.blk HOWN.out fun j hj => ?_⟩
        have := (HOWN.out.lt j hj).1
        exact Below.heap_setCell _ _ _ _ (by simp; omega)
      case measure => simp [intOf]; omega
    · have hqli : ¬ (q : Int) < ld := by omega
      have HGV := Lib.hid (show L.getD q 0 = 0 by rw [HMG.out q hqn, if_neg hql])
      obtain ⟨i0', hi0, hzz0, hzz1, hzz2⟩ := info_parts u8_info
      have hown0 := how.alloc (.cells #[.int .u8 0] 5)
      have HOW0 := Lib.hid hown0
      have hsz' : w.heap.size + 3 ≤ wr.heap.size := by have := HBR.out.size; have := HZ.out; omega
      have HSZ := Lib.hid hsz'
      have htk : (L.take q).map (Value.int .u8) ++ [.int .u8 0] = (L.take (q + 1)).map (Value.int .u8) := by
        have hql : q < L.length := by rw [HML.out]; exact hqn
        rw [List.take_add_one, List.getElem?_eq_getElem hql, List.map_append]
        have hgv := HGV.out
        rw [List.getD_eq_getElem?_getD, List.getElem?_eq_getElem hql] at hgv
        simp only [Option.getD_some] at hgv
        simp [hgv]
      have HTK := Lib.hid htk
      clear hown0 hsz' htk how hst
      go_wp2_with (at_builtin
                   refine wpList_ap (w := wr.alloc (.cells #[.int .u8 0] 5)) rfl (.tmp 24) (.tmp 26) _ rfl (w.heap.size + 3) 5 i0' _ 1 Tryd.underlying22 hi0 hzz0 hzz1 hzz2 rfl (.slice A q cap) q ((L.take q).map (Value.int .u8)) rfl HOW0.out (some ⟨wr.heap.size, 0, none⟩) 1 1 [.int .u8 0] rfl (Sl.new wr [.int .u8 0] 5) (by simp) (one_cell [0]) (by simp only [maxLen]; omega) (by omega) (by have := HSZ.out; simp; omega) (q + 1) ((L.take (q + 1)).map (Value.int .u8)) rfl HTK.out ?_
                   intro A' cap' v2 hc1 hc2 hown hsl hb2
                   have bl2 : Below (w.heap.size + 3) wr v2 := ((Below.box wr (.cells #[.int .u8 0] 5)).mono HSZ.out).trans hb2
                   have s2 := (bl2.block _ (by omega)).trans HST.out
                   have c9 := row_cell s2 9
                   have f9 := Joins.unfrozen_of_block s2 9
                   simp at c9
                   have S2 := Lib.hid s2
                   have BL2 := Lib.hid bl2
                   have HOWN := Lib.hid hown
                   have HC1 := Lib.hid (And.intro hc1 hc2)
                   clear hown hsl hb2 bl2 s2 hc1 hc2)
      go_roundw
      case rel =>
        refine ⟨q + 1, A', cap', by omega, by go_num, ((HBR.out).trans (BL2.out.mono (by omega))).setCell (by simp) _, Joins.block_setCell S2.out _, ownsRow.blk HOWN.out fun j hj => ?_⟩
        have := (HOWN.out.lt j hj).1
        exact Below.heap_setCell _ _ _ _ (by simp; omega)
      case measure => simp [intOf]; omega
end Go.Proofs.YtfhnigfghfmolaaDoor
namespace Go.Proofs.YtfhnigfghfmolaaDoor
set_option maxRecDepth 100000
open Go.RowKit

theorem step_apO {P : Program} {w : World} {ops : Array Oper} {o : Oper} {a : Act} {K : Act → World → Prop} {Q : Exit → Act → World → Prop} {E : Prop} (hgd : o.guard = none) (s x : Operand) (t : TypeId)
    (ho : o.op = .call { callee := .builtin .append, args := #[s, x], argTypes := #[t, t] })
    (base : Nat) (e : TypeId) (i : TypeInfo) (z : Value) (bytes : Nat) (ht : P.underlying t = some (.slice e)) (hi : P.info? e = some i) (hz : i.zero = some z)
    (hsize : i.size = 1) (hby : i.bytes = bytes) (hzs : z.cells.size = 1)
    (v : Value) (n : Nat) (xs : List Value) (hs : a.eval s = v) (hown : w.ownsRow base e 1 v n xs)
    (A : Option Addr) (m c : Nat) (news : List Value) (hx : a.eval x = .slice A m c) (hr : Sl w A m news) (hA : A = none → m = 0) (h1 : ∀ u ∈ news, u.oneCell' = true)
    (h63 : n + m ≤ maxLen) (hbytes : (n + m) * bytes ≤ 140737488355328) (hbase : base ≤ w.heap.size) (N : Nat) (L : List Value) (hN : n + m = N) (hL : xs ++ news = L)
    (h : ∀ A' cap' w', N ≤ cap' → cap' ≤ maxLen → w'.ownsRow base e 1 (.slice A' N cap') N L → Below base w w' → w.grownBy w' v.ownBlock → K (a.put o.dst (.slice A' N cap')) w') :
    if Region.wanted o (yielded ops a.tmps) = true then Oper.wp P o a w K Q else E := by
  subst hN hL
  have hw : Region.wanted o (yielded ops a.tmps) = true := by simp [Region.wanted, hgd]
  rw [if_pos hw]
  have key : ∃ v' w', (Builtin.append_ #[t, t] o.type #[v, .slice A m c]).run P w = .ok v' w' ∧ w'.ownsRow base e 1 v' (n + m) (xs ++ news) ∧ Below base w w' ∧ w.grownBy w' v.ownBlock := by
    obtain ⟨_, _, _, _, _, _, hk⟩ := Sl.of_own hown
    rcases A with _ | ad
    · obtain rfl := hA rfl
      have hn : news = [] := List.eq_nil_of_length_eq_zero hr.1
      subst hn
      exact ⟨v, w, run_ap_nil w base t o.type e i ht hi v n xs hown c, by simpa using hown, Below.refl _ _, World.grownBy.refl _ _⟩
    · have hcells : ∀ j u, news[j]? = some u → w.cell? (ad.add j) = some u := fun j u hu => by
        rcases Nat.eq_zero_or_pos m with h0 | h0
        · have hn : news = [] := List.eq_nil_of_length_eq_zero (hr.1.trans h0)
          subst hn
          simp at hu
        · obtain ⟨b, o', he, _, hc⟩ := hr.2 h0
          injection he with he
          subst he
          exact hc j u hu
      obtain ⟨v', w', hrun, h2, h3, _, _⟩ := run_append_own_at (P := P) w base t o.type e i z 1 bytes ht hi hz hsize hby hzs (by omega) v n xs hown ad m c news (by rw [hr.1]; omega) hcells h1 h63 hbytes hbase
      exact ⟨v', w', hrun, h2, (Below.refl _ _).grown h3 hbase hk, h3⟩
  obtain ⟨v', w', hrun, h2, h3, h4⟩ := key
  obtain ⟨A', cap', rfl, hc1, hc2, hsl, _⟩ := Sl.of_own h2
  unfold Oper.wp execOp
  simp only [ho, resolve, invoke, builtin, Sem.run_bind, Sem.run_pure, Result.andThen_ok, List.map_toArray, List.map_cons, List.map_nil, hs, hx, hrun]
  exact h A' cap' w' hc1 hc2 h2 h3 h4
theorem one_slR {W : World} {g : Nat} {v : Value} (hl : g < W.heap.size) (h : W.cell? ⟨g, 0, none⟩ = some v) : Sl W (some ⟨g, 0, none⟩) 1 [v] :=
  ⟨rfl, fun _ => ⟨g, 0, rfl, hl, fun i u hu => by
    match i, hu with
    | 0, hu => simp at hu; subst hu; exact h
    | i + 1, hu => simp at hu⟩⟩

set_option maxRecDepth 20000 in
set_option maxHeartbeats 6400000 in
theorem rflow_call (mem stk inp : Int) (Ad : Option Addr) (ld cd : Nat) (Af : Option Addr) (lf cf : Nat) (Ac : Option Addr) (lc cc : Nat) (a b c : Int) (m : Nat) (pl : Int) (z0 z1 z2 z3 z4 z5 z6 z7 : Int) (MA : Option Addr) (mn mc : Nat) (OA : Option Addr) (on oc : Nat) (op fs : List Int) (w : World) (hO : InSl w OA on oc op) (hF : InSl w Af lf cf fs) (hm : m < lf) (hst : (on : Int) < stk) (hon : on ≤ 1000) (p0 : 0 ≤ pl) (p1 : pl < 1000000) :
    Calls Tryd.prog 39 #[.agg #[.int .i64 mem, .int .i64 stk, .int .i64 inp, .slice Ad ld cd, .slice Af lf cf, .slice Ac lc cc], .agg #[.int .i64 23, .int .i64 a, .int .i64 b, .int .i64 c, .int .u64 (m : Int)], .agg #[.int .i64 pl, .int .u64 z0, .int .u64 z1, .int .u64 z2, .int .u64 z3, .int .u64 z4, .int .u64 z5, .int .u64 z6, .int .u64 z7, .slice MA mn mc, .slice OA on oc]] w fun e w' => ∃ O' oc', e = .returned (.tuple #[.agg #[.int .i64 (fs.getD m 0), .int .u64 z0, .int .u64 z1, .int .u64 z2, .int .u64 z3, .int .u64 z4, .int .u64 z5, .int .u64 z6, .int .u64 z7, .slice MA mn mc, .slice O' (on + 1) oc'], .int .i64 0]) ∧ w'.ownsRow w.heap.size 3 1 (.slice O' (on + 1) oc') (on + 1) ((op ++ [pl + 1]).map (Value.int .i64)) ∧ Below w.heap.size w w' := by
  obtain ⟨fb, fo, rfl, hfb, hfc⟩ := hF.mem (by omega)
  have hfq := hfc m hm
  have h4 := four' w (.cells #[.int .i64 mem, .int .i64 stk, .int .i64 inp, .slice Ad ld cd, .slice (some ⟨fb, fo, none⟩) lf cf, .slice Ac lc cc] 26) (.cells #[.int .i64 23, .int .i64 a, .int .i64 b, .int .i64 c, .int .u64 (m : Int)] 59) (.cells #[.int .i64 pl, .int .u64 z0, .int .u64 z1, .int .u64 z2, .int .u64 z3, .int .u64 z4, .int .u64 z5, .int .u64 z6, .int .u64 z7, .slice MA mn mc, .slice OA on oc] 45) (.cells #[.int .i64 0, .int .u64 0, .int .u64 0, .int .u64 0, .int .u64 0, .int .u64 0, .int .u64 0, .int .u64 0, .int .u64 0, .slice none 0 0, .slice none 0 0] 45)
  have hB : Below w.heap.size w ((((w.alloc (.cells #[.int .i64 mem, .int .i64 stk, .int .i64 inp, .slice Ad ld cd, .slice (some ⟨fb, fo, none⟩) lf cf, .slice Ac lc cc] 26)).alloc (.cells #[.int .i64 23, .int .i64 a, .int .i64 b, .int .i64 c, .int .u64 (m : Int)] 59)).alloc (.cells #[.int .i64 pl, .int .u64 z0, .int .u64 z1, .int .u64 z2, .int .u64 z3, .int .u64 z4, .int .u64 z5, .int .u64 z6, .int .u64 z7, .slice MA mn mc, .slice OA on oc] 45)).alloc (.cells #[.int .i64 0, .int .u64 0, .int .u64 0, .int .u64 0, .int .u64 0, .int .u64 0, .int .u64 0, .int .u64 0, .int .u64 0, .slice none 0 0, .slice none 0 0] 45)) := ((((Below.refl _ _).alloc (Nat.le_refl _) _).alloc (by simp) _).alloc (by simp; omega) _).alloc (by simp; omega) _
  have hz : ((((w.alloc (.cells #[.int .i64 mem, .int .i64 stk, .int .i64 inp, .slice Ad ld cd, .slice (some ⟨fb, fo, none⟩) lf cf, .slice Ac lc cc] 26)).alloc (.cells #[.int .i64 23, .int .i64 a, .int .i64 b, .int .i64 c, .int .u64 (m : Int)] 59)).alloc (.cells #[.int .i64 pl, .int .u64 z0, .int .u64 z1, .int .u64 z2, .int .u64 z3, .int .u64 z4, .int .u64 z5, .int .u64 z6, .int .u64 z7, .slice MA mn mc, .slice OA on oc] 45)).alloc (.cells #[.int .i64 0, .int .u64 0, .int .u64 0, .int .u64 0, .int .u64 0, .int .u64 0, .int .u64 0, .int .u64 0, .int .u64 0, .slice none 0 0, .slice none 0 0] 45)).heap.size = w.heap.size + 4 := by simp
  obtain ⟨q, hq⟩ : ∃ q, fs.getD m 0 = q := ⟨_, rfl⟩
  rw [hq]
  have hpw : IntKind.i64.wrap (pl + 1) = pl + 1 := by rw [IntKind.wrap_i64]; omega
  rw [hq] at hfq
  have hmi : (m : Int) < lf := by omega
  have hnst : ¬ stk ≤ (on : Int) := by omega
  have HO := Lib.hid hO
  have H4 := Lib.hid h4
  have HB := Lib.hid hB
  have HZ := Lib.hid hz
  have HFQ := Lib.hid hfq
  have HFB := Lib.hid hfb
  have HMI := Lib.hid hmi
  clear hO hq h4 hB hz hF hfc hfq hfb hm hmi p0 p1 hst
  go_enter Tryd.func39, Tryd.ntmps39
  go_upto_region 11 with (fail)
  clear hnst
  generalize ((((w.alloc (.cells #[.int .i64 mem, .int .i64 stk, .int .i64 inp, .slice Ad ld cd, .slice (some ⟨fb, fo, none⟩) lf cf, .slice Ac lc cc] 26)).alloc (.cells #[.int .i64 23, .int .i64 a, .int .i64 b, .int .i64 c, .int .u64 (m : Int)] 59)).alloc (.cells #[.int .i64 pl, .int .u64 z0, .int .u64 z1, .int .u64 z2, .int .u64 z3, .int .u64 z4, .int .u64 z5, .int .u64 z6, .int .u64 z7, .slice MA mn mc, .slice OA on oc] 45)).alloc (.cells #[.int .i64 0, .int .u64 0, .int .u64 0, .int .u64 0, .int .u64 0, .int .u64 0, .int .u64 0, .int .u64 0, .int .u64 0, .slice none 0 0, .slice none 0 0] 45)) = w4 at *
  refine held_tail (S := fun W => Below w4.heap.size w4 W) 10 (by kernel_rfl) (by simp) (Below.refl _ _).drew (fun hHeld => ?_)
  refine headS_take (i := 1) (v := .pointer (some ⟨w.heap.size + 1 + 1, 10, none⟩)) rfl (by kernel_rfl) (fun _ _ _ h => h) (Or.inl ⟨by rfl, fun w9 hSw => ?_⟩) hHeld ?_
  · (try dsimp only at hSw)
    go_simp
  try simp only [List.getElem_toArray, List.getElem_cons_succ, List.getElem_cons_zero, Act.put, List.setIfInBounds_toArray, List.set_cons_zero, List.set_cons_succ]
  refine headS_take (i := 2) (v := .slice OA on oc) rfl (by kernel_rfl) (fun _ _ _ h => h) (Or.inl ⟨by rfl, fun w9 hSw => ?_⟩) hHeld ?_
  · (try dsimp only at hSw)
    have q10 : w9.cell? ⟨w.heap.size + 1 + 1, 10, none⟩ = some (.slice OA on oc) := cells_below hSw (row_cell H4.out.2.2.1 10) (by have := HZ.out; omega)
    go_simp
  try simp only [List.getElem_toArray, List.getElem_cons_succ, List.getElem_cons_zero, Act.put, List.setIfInBounds_toArray, List.set_cons_zero, List.set_cons_succ]
  refine headS_take (i := 4) (v := .pointer (some ⟨w.heap.size + 1 + 1, 0, none⟩)) rfl (by kernel_rfl) (fun _ _ _ h => h) (Or.inl ⟨by rfl, fun w9 hSw => ?_⟩) hHeld ?_
  · (try dsimp only at hSw)
    go_simp
  try simp only [List.getElem_toArray, List.getElem_cons_succ, List.getElem_cons_zero, Act.put, List.setIfInBounds_toArray, List.set_cons_zero, List.set_cons_succ]
  refine headS_take (i := 5) (v := .int .i64 pl) rfl (by kernel_rfl) (fun _ _ _ h => h) (Or.inl ⟨by rfl, fun w9 hSw => ?_⟩) hHeld ?_
  · (try dsimp only at hSw)
    have q0 : w9.cell? ⟨w.heap.size + 1 + 1, 0, none⟩ = some (.int .i64 pl) := cells_below hSw (row_cell H4.out.2.2.1 0) (by have := HZ.out; omega)
    go_simp
  try simp only [List.getElem_toArray, List.getElem_cons_succ, List.getElem_cons_zero, Act.put, List.setIfInBounds_toArray, List.set_cons_zero, List.set_cons_succ]
  refine headS_take (i := 6) (v := .int .i64 (pl + 1)) rfl (by kernel_rfl) (fun _ _ _ h => h) (Or.inl ⟨by rfl, fun w9 hSw => ?_⟩) hHeld ?_
  · (try dsimp only at hSw)
    go_simp
  try simp only [List.getElem_toArray, List.getElem_cons_succ, List.getElem_cons_zero, Act.put, List.setIfInBounds_toArray, List.set_cons_zero, List.set_cons_succ]
  have HH0 := Lib.hid hHeld
  generalize w4.drew = v0 at *
  refine headS_ready (rs := [0, 7]) (by kernel_rfl) (by simp) (by rfl) ?_
  refine AllS.cons rfl (fun K hK => ?_) (AllS.cons rfl (fun K hK => ?_) (AllS.nil))
  · go_simp
    have hbx := Below.box v0 (.cells #[] 3)
    have hS2 : Below w4.heap.size w4 (v0.alloc (.cells #[] 3)) := HH0.out.trans (hbx.mono (HH0.out).size)
    refine hK.out _ _ hS2 (fun hHeld => ?_)
    clear hK K
    have hF : (v0.alloc (.cells #[] 3)).ownsRow w4.heap.size 3 1 (.slice (some ⟨v0.heap.size, 0, none⟩) 0 0) 0 [] := Joins.ownsRow_le (own_newI v0) (HH0.out).size
    have hgl : v0.heap.size < (v0.alloc (.cells #[] 3)).heap.size := by simp
    have hLold : v0.heap.size ≤ (v0.alloc (.cells #[] 3)).heap.size := by simp
    obtain ⟨g41_v1, hg41_v1⟩ : ∃ g, g = v0.heap.size := ⟨_, rfl⟩
    generalize v0.alloc (.cells #[] 3) = v1 at *
    simp only [← hg41_v1] at hF hgl hHeld ⊢
    have HFv1 := Lib.hid hF
    have HLv1 := Lib.hid hgl
    have HSSv1 := Lib.hid hS2
    clear hF hgl hS2 hbx hLold hg41_v1
    try simp only [List.getElem_toArray, List.getElem_cons_succ, List.getElem_cons_zero, Act.put, List.setIfInBounds_toArray, List.set_cons_zero, List.set_cons_succ]
    refine headS_ready (rs := [3, 7]) (by kernel_rfl) (by simp) (by rfl) ?_
    refine AllS.cons rfl (fun K hK => ?_) (AllS.cons rfl (fun K hK => ?_) (AllS.nil))
    · obtain ⟨i0', hi0, hzz0, hzz1, hzz2⟩ := info_parts i64_infoR
      refine step_apO rfl (.tmp 41) (.tmp 43) 23 rfl w4.heap.size 3 i0' _ 8 Tryd.underlying23 hi0 hzz0 hzz1 hzz2 rfl (.slice (some ⟨g41_v1, 0, none⟩) 0 0) 0 [] (by rfl) HFv1.out OA on oc (op.map (Value.int .i64)) (by rfl) ((HO.out.below (HB.out.trans ((HSSv1.out).mono HB.out.size))).sl) HO.out.hnone (one_cell64M _) (by simp only [maxLen]; omega) (by omega) (HSSv1.out).size on (op.map (Value.int .i64)) (by omega) rfl ?_
      intro A4 c4 v2 hc1 hc2 hown hb2 hgr
      have hS2 : Below w4.heap.size w4 v2 := (HSSv1.out).trans hb2
      refine hK.out _ _ hS2 (fun hHeld => ?_)
      clear hK K
      have HFv2 := Lib.hid hown
      have HSSv2 := Lib.hid hS2
      clear hown hS2 hb2 hgr hc1 hc2 hzz0 hzz1 hzz2 hi0
      try simp only [List.getElem_toArray, List.getElem_cons_succ, List.getElem_cons_zero, Act.put, List.setIfInBounds_toArray, List.set_cons_zero, List.set_cons_succ]
      refine headS_ready (rs := [7]) (by kernel_rfl) (by simp) (by rfl) ?_
      refine AllS.cons rfl (fun K hK => ?_) (AllS.nil)
      · go_simp
        have hbx := Below.box v2 (.cells #[.int .i64 (pl + 1)] 3)
        have hS2 : Below w4.heap.size w4 (v2.alloc (.cells #[.int .i64 (pl + 1)] 3)) := HSSv2.out.trans (hbx.mono (HSSv2.out).size)
        refine hK.out _ _ hS2 (fun hHeld => ?_)
        clear hK K
        have hF : (v2.alloc (.cells #[.int .i64 (pl + 1)] 3)).cell? ⟨v2.heap.size, 0, none⟩ = some (.int .i64 (pl + 1)) := by simp
        have hgl : v2.heap.size < (v2.alloc (.cells #[.int .i64 (pl + 1)] 3)).heap.size := by simp
        have hT44 := own_below HFv2.out hbx
        have hLold : v2.heap.size ≤ (v2.alloc (.cells #[.int .i64 (pl + 1)] 3)).heap.size := by simp
        obtain ⟨g48_v3, hg48_v3⟩ : ∃ g, g = v2.heap.size := ⟨_, rfl⟩
        generalize v2.alloc (.cells #[.int .i64 (pl + 1)] 3) = v3 at *
        simp only [← hg48_v3] at hF hgl hHeld ⊢
        have HFv3 := Lib.hid hF
        have HLv3 := Lib.hid hgl
        have HSSv3 := Lib.hid hS2
        have HT44v3 := Lib.hid hT44
        clear hF hgl hS2 hbx hLold hT44 hg48_v3
        try simp only [List.getElem_toArray, List.getElem_cons_succ, List.getElem_cons_zero, Act.put, List.setIfInBounds_toArray, List.set_cons_zero, List.set_cons_succ]
        refine headS_ready (rs := [8]) (by kernel_rfl) (by simp) (by rfl) ?_
        refine AllS.cons rfl (fun K hK => ?_) (AllS.nil)
        · obtain ⟨i0', hi0, hzz0, hzz1, hzz2⟩ := info_parts i64_infoR
          refine step_apO rfl (.tmp 44) (.tmp 48) 23 rfl w4.heap.size 3 i0' _ 8 Tryd.underlying23 hi0 hzz0 hzz1 hzz2 rfl (.slice A4 on c4) on (op.map (Value.int .i64)) (by rfl) HT44v3.out (some ⟨g48_v3, 0, none⟩) 1 1 [.int .i64 (pl + 1)] (by rfl) (one_slR HLv3.out HFv3.out) (fun h => by cases h) (by simp [Value.oneCell']) (by simp only [maxLen]; omega) (by omega) (HSSv3.out).size (on + 1) ((op ++ [pl + 1]).map (Value.int .i64)) rfl (by simp) ?_
          intro A5 c5 v4 hc1 hc2 hown hb2 hgr
          have hS2 : Below w4.heap.size w4 v4 := (HSSv3.out).trans hb2
          refine hK.out _ _ hS2 (fun hHeld => ?_)
          clear hK K
          have HOWN := Lib.hid hown
          have HSS := Lib.hid hS2
          clear hown hS2 hb2 hgr hc1 hc2 hzz0 hzz1 hzz2 hi0
          try simp only [List.getElem_toArray, List.getElem_cons_succ, List.getElem_cons_zero, Act.put, List.setIfInBounds_toArray, List.set_cons_zero, List.set_cons_succ]
          refine headS_take (i := 9) (v := .pointer (some ⟨w.heap.size + 1 + 1, 10, none⟩)) rfl (by kernel_rfl) (fun _ _ _ h => h) (Or.inl ⟨by rfl, fun w9 hSw => ?_⟩) hHeld ?_
          · (try dsimp only at hSw)
            go_simp
          try simp only [List.getElem_toArray, List.getElem_cons_succ, List.getElem_cons_zero, Act.put, List.setIfInBounds_toArray, List.set_cons_zero, List.set_cons_succ]
          refine ⟨by kernel_rfl, ?_⟩
          simp only [List.drop_succ_cons, List.drop_zero]
          have hz4 := HZ.out
          have s0 := (HSS.out.block w.heap.size (by omega)).trans H4.out.1
          have s1 := (HSS.out.block (w.heap.size + 1) (by omega)).trans H4.out.2.1
          have s2 := (HSS.out.block (w.heap.size + 1 + 1) (by omega)).trans H4.out.2.2.1
          have s3 := (HSS.out.block (w.heap.size + 1 + 1 + 1) (by omega)).trans H4.out.2.2.2
          have hl3 : w.heap.size + 1 + 1 + 1 < v4.heap.size := by have := HSS.out.size; omega
          have HL3 := Lib.hid hl3
          have b5 : Below w.heap.size w (v4.setCell ⟨w.heap.size + 1 + 1, 10, none⟩ (.slice A5 (on + 1) c5)) := (HB.out.trans (HSS.out.mono HB.out.size)).setCell (by simp; omega) _
          clear hz4 hl3
          have t0 : (v4.setCell ⟨w.heap.size + 1 + 1, 10, none⟩ (.slice A5 (on + 1) c5)).heap[w.heap.size]? = _ := (Below.heap_setCell _ _ _ _ (by simp; omega)).trans s0
          have t1 : (v4.setCell ⟨w.heap.size + 1 + 1, 10, none⟩ (.slice A5 (on + 1) c5)).heap[w.heap.size + 1]? = _ := (Below.heap_setCell _ _ _ _ (by simp)).trans s1
          have t2 : (v4.setCell ⟨w.heap.size + 1 + 1, 10, none⟩ (.slice A5 (on + 1) c5)).heap[w.heap.size + 1 + 1]? = some (.cells #[.int .i64 pl, .int .u64 z0, .int .u64 z1, .int .u64 z2, .int .u64 z3, .int .u64 z4, .int .u64 z5, .int .u64 z6, .int .u64 z7, .slice MA mn mc, .slice A5 (on + 1) c5] 45 (0, 0)) := Joins.block_setCell s2 _
          have t3 : (v4.setCell ⟨w.heap.size + 1 + 1, 10, none⟩ (.slice A5 (on + 1) c5)).heap[w.heap.size + 1 + 1 + 1]? = some (.cells #[.int .i64 0, .int .u64 0, .int .u64 0, .int .u64 0, .int .u64 0, .int .u64 0, .int .u64 0, .int .u64 0, .int .u64 0, .slice none 0 0, .slice none 0 0] 45 (0, 0)) := (Below.heap_setCell _ _ _ _ (by simp)).trans s3
          have y2 : ((v4.setCell ⟨w.heap.size + 1 + 1, 10, none⟩ (.slice A5 (on + 1) c5)).setCell ⟨w.heap.size + 1 + 1, 0, none⟩ (.int .i64 q)).heap[w.heap.size + 1 + 1]? = some (.cells #[.int .i64 q, .int .u64 z0, .int .u64 z1, .int .u64 z2, .int .u64 z3, .int .u64 z4, .int .u64 z5, .int .u64 z6, .int .u64 z7, .slice MA mn mc, .slice A5 (on + 1) c5] 45 (0, 0)) := Joins.block_setCell t2 _
          have y3 : ((v4.setCell ⟨w.heap.size + 1 + 1, 10, none⟩ (.slice A5 (on + 1) c5)).setCell ⟨w.heap.size + 1 + 1, 0, none⟩ (.int .i64 q)).heap[w.heap.size + 1 + 1 + 1]? = some (.cells #[.int .i64 0, .int .u64 0, .int .u64 0, .int .u64 0, .int .u64 0, .int .u64 0, .int .u64 0, .int .u64 0, .int .u64 0, .slice none 0 0, .slice none 0 0] 45 (0, 0)) := (Below.heap_setCell _ _ _ _ (by simp)).trans t3
          have hb6 := b5.setCell (p := ⟨w.heap.size + 1 + 1, 0, none⟩) (by simp; omega) (.int .i64 q)
          have cfq := cells_below b5 HFQ.out HFB.out
          have hmi := HMI.out
          have d10 := row_cell s2 10
          have g10 := Joins.unfrozen_of_block s2 10
          have d0 := row_cell t2 0
          have g0 := Joins.unfrozen_of_block t2 0
          have q4 := row_cell t0 4
          have i4 := row_cell t1 4
          simp at d10 d0 q4 i4
          have x0 := row_cell y2 0
          have x1 := row_cell y2 1
          have x2 := row_cell y2 2
          have x3 := row_cell y2 3
          have x4 := row_cell y2 4
          have x5 := row_cell y2 5
          have x6 := row_cell y2 6
          have x7 := row_cell y2 7
          have x8 := row_cell y2 8
          have x9 := row_cell y2 9
          have x10 := row_cell y2 10
          simp at x0 x1 x2 x3 x4 x5 x6 x7 x8 x9 x10
          have Y3 := Lib.hid y3
          have HB6 := Lib.hid hb6
          clear s0 s1 s2 s3 t0 t1 t2 t3 y2 y3 b5 hb6
          have h1c : (#[.int .i64 q, .int .u64 z0, .int .u64 z1, .int .u64 z2, .int .u64 z3, .int .u64 z4, .int .u64 z5, .int .u64 z6, .int .u64 z7, .slice MA mn mc, .slice A5 (on + 1) c5] : Array Value).all (·.oneCell') = true := by simp [Value.oneCell']
          have H1C := Lib.hid h1c
          clear h1c
          go_wp2_with (with_reducible refine store_r (.tmp 6) (.tmp 84) _ _ #[.int .i64 q, .int .u64 z0, .int .u64 z1, .int .u64 z2, .int .u64 z3, .int .u64 z4, .int .u64 z5, .int .u64 z6, .int .u64 z7, .slice MA mn mc, .slice A5 (on + 1) c5] Y3.out rfl rfl rfl rfl rfl rfl H1C.out ?_)
          refine ret_r2 (w.heap.size + 1 + 1 + 1) #[.int .i64 q, .int .u64 z0, .int .u64 z1, .int .u64 z2, .int .u64 z3, .int .u64 z4, .int .u64 z5, .int .u64 z6, .int .u64 z7, .slice MA mn mc, .slice A5 (on + 1) c5] (.int .i64 0) (setRow_heap _ _ _ _ _ _ Y3.out) rfl rfl rfl rfl rfl ?_
          refine ⟨A5, c5, rfl, ?_, below_setRowM HB6.out (by omega) _⟩
          refine Joins.ownsRow_le (ownsRow.blk HOWN.out fun k hk => ?_) HB.out.size
          have := (HOWN.out.lt k hk).1
          have := HZ.out
          rw [setRow_other _ _ _ _ (by omega), Below.heap_setCell _ _ _ _ (by simp; omega), Below.heap_setCell _ _ _ _ (by simp; omega)]
    · go_simp
      have hbx := Below.box v1 (.cells #[.int .i64 (pl + 1)] 3)
      have hS2 : Below w4.heap.size w4 (v1.alloc (.cells #[.int .i64 (pl + 1)] 3)) := HSSv1.out.trans (hbx.mono (HSSv1.out).size)
      refine hK.out _ _ hS2 (fun hHeld => ?_)
      clear hK K
      have hF : (v1.alloc (.cells #[.int .i64 (pl + 1)] 3)).cell? ⟨v1.heap.size, 0, none⟩ = some (.int .i64 (pl + 1)) := by simp
      have hgl : v1.heap.size < (v1.alloc (.cells #[.int .i64 (pl + 1)] 3)).heap.size := by simp
      have hT41 := own_below HFv1.out hbx
      have hne : g41_v1 < v1.heap.size := HLv1.out
      have hLold : v1.heap.size ≤ (v1.alloc (.cells #[.int .i64 (pl + 1)] 3)).heap.size := by simp
      obtain ⟨g48_v5, hg48_v5⟩ : ∃ g, g = v1.heap.size := ⟨_, rfl⟩
      generalize v1.alloc (.cells #[.int .i64 (pl + 1)] 3) = v5 at *
      simp only [← hg48_v5] at hF hgl hHeld ⊢
      simp only [← hg48_v5] at hne
      have HFv5 := Lib.hid hF
      have HLv5 := Lib.hid hgl
      have HSSv5 := Lib.hid hS2
      have HT41v5 := Lib.hid hT41
      have HL41v5 := Lib.hid (Nat.lt_of_lt_of_le HLv1.out hLold)
      have HNEv5 := Lib.hid hne
      clear hF hgl hS2 hbx hLold hT41 hne hg48_v5
      try simp only [List.getElem_toArray, List.getElem_cons_succ, List.getElem_cons_zero, Act.put, List.setIfInBounds_toArray, List.set_cons_zero, List.set_cons_succ]
      refine headS_ready (rs := [3]) (by kernel_rfl) (by simp) (by rfl) ?_
      refine AllS.cons rfl (fun K hK => ?_) (AllS.nil)
      · obtain ⟨i0', hi0, hzz0, hzz1, hzz2⟩ := info_parts i64_infoR
        refine step_apO rfl (.tmp 41) (.tmp 43) 23 rfl w4.heap.size 3 i0' _ 8 Tryd.underlying23 hi0 hzz0 hzz1 hzz2 rfl (.slice (some ⟨g41_v1, 0, none⟩) 0 0) 0 [] (by rfl) HT41v5.out OA on oc (op.map (Value.int .i64)) (by rfl) ((HO.out.below (HB.out.trans ((HSSv5.out).mono HB.out.size))).sl) HO.out.hnone (one_cell64M _) (by simp only [maxLen]; omega) (by omega) (HSSv5.out).size on (op.map (Value.int .i64)) (by omega) rfl ?_
        intro A4 c4 v6 hc1 hc2 hown hb2 hgr
        have hS2 : Below w4.heap.size w4 v6 := (HSSv5.out).trans hb2
        have hT48 := hgr.cell HFv5.out (by have := HNEv5.out; simp only [Value.ownBlock]; intro h; injection h with h; omega)
        have hL48 := Nat.lt_of_lt_of_le HLv5.out hgr.size
        refine hK.out _ _ hS2 (fun hHeld => ?_)
        clear hK K
        have HFv6 := Lib.hid hown
        have HSSv6 := Lib.hid hS2
        have HT48v6 := Lib.hid hT48
        have HL48v6 := Lib.hid hL48
        clear hown hS2 hb2 hgr hc1 hc2 hzz0 hzz1 hzz2 hi0 hT48 hL48
        try simp only [List.getElem_toArray, List.getElem_cons_succ, List.getElem_cons_zero, Act.put, List.setIfInBounds_toArray, List.set_cons_zero, List.set_cons_succ]
        refine headS_ready (rs := [8]) (by kernel_rfl) (by simp) (by rfl) ?_
        refine AllS.cons rfl (fun K hK => ?_) (AllS.nil)
        · obtain ⟨i0', hi0, hzz0, hzz1, hzz2⟩ := info_parts i64_infoR
          refine step_apO rfl (.tmp 44) (.tmp 48) 23 rfl w4.heap.size 3 i0' _ 8 Tryd.underlying23 hi0 hzz0 hzz1 hzz2 rfl (.slice A4 on c4) on (op.map (Value.int .i64)) (by rfl) HFv6.out (some ⟨g48_v5, 0, none⟩) 1 1 [.int .i64 (pl + 1)] (by rfl) (one_slR HL48v6.out HT48v6.out) (fun h => by cases h) (by simp [Value.oneCell']) (by simp only [maxLen]; omega) (by omega) (HSSv6.out).size (on + 1) ((op ++ [pl + 1]).map (Value.int .i64)) rfl (by simp) ?_
          intro A5 c5 v7 hc1 hc2 hown hb2 hgr
          have hS2 : Below w4.heap.size w4 v7 := (HSSv6.out).trans hb2
          refine hK.out _ _ hS2 (fun hHeld => ?_)
          clear hK K
          have HOWN := Lib.hid hown
          have HSS := Lib.hid hS2
          clear hown hS2 hb2 hgr hc1 hc2 hzz0 hzz1 hzz2 hi0
          try simp only [List.getElem_toArray, List.getElem_cons_succ, List.getElem_cons_zero, Act.put, List.setIfInBounds_toArray, List.set_cons_zero, List.set_cons_succ]
          refine headS_take (i := 9) (v := .pointer (some ⟨w.heap.size + 1 + 1, 10, none⟩)) rfl (by kernel_rfl) (fun _ _ _ h => h) (Or.inl ⟨by rfl, fun w9 hSw => ?_⟩) hHeld ?_
          · (try dsimp only at hSw)
            go_simp
          try simp only [List.getElem_toArray, List.getElem_cons_succ, List.getElem_cons_zero, Act.put, List.setIfInBounds_toArray, List.set_cons_zero, List.set_cons_succ]
          refine ⟨by kernel_rfl, ?_⟩
          simp only [List.drop_succ_cons, List.drop_zero]
          have hz4 := HZ.out
          have s0 := (HSS.out.block w.heap.size (by omega)).trans H4.out.1
          have s1 := (HSS.out.block (w.heap.size + 1) (by omega)).trans H4.out.2.1
          have s2 := (HSS.out.block (w.heap.size + 1 + 1) (by omega)).trans H4.out.2.2.1
          have s3 := (HSS.out.block (w.heap.size + 1 + 1 + 1) (by omega)).trans H4.out.2.2.2
          have hl3 : w.heap.size + 1 + 1 + 1 < v7.heap.size := by have := HSS.out.size; omega
          have HL3 := Lib.hid hl3
          have b5 : Below w.heap.size w (v7.setCell ⟨w.heap.size + 1 + 1, 10, none⟩ (.slice A5 (on + 1) c5)) := (HB.out.trans (HSS.out.mono HB.out.size)).setCell (by simp; omega) _
          clear hz4 hl3
          have t0 : (v7.setCell ⟨w.heap.size + 1 + 1, 10, none⟩ (.slice A5 (on + 1) c5)).heap[w.heap.size]? = _ := (Below.heap_setCell _ _ _ _ (by simp; omega)).trans s0
          have t1 : (v7.setCell ⟨w.heap.size + 1 + 1, 10, none⟩ (.slice A5 (on + 1) c5)).heap[w.heap.size + 1]? = _ := (Below.heap_setCell _ _ _ _ (by simp)).trans s1
          have t2 : (v7.setCell ⟨w.heap.size + 1 + 1, 10, none⟩ (.slice A5 (on + 1) c5)).heap[w.heap.size + 1 + 1]? = some (.cells #[.int .i64 pl, .int .u64 z0, .int .u64 z1, .int .u64 z2, .int .u64 z3, .int .u64 z4, .int .u64 z5, .int .u64 z6, .int .u64 z7, .slice MA mn mc, .slice A5 (on + 1) c5] 45 (0, 0)) := Joins.block_setCell s2 _
          have t3 : (v7.setCell ⟨w.heap.size + 1 + 1, 10, none⟩ (.slice A5 (on + 1) c5)).heap[w.heap.size + 1 + 1 + 1]? = some (.cells #[.int .i64 0, .int .u64 0, .int .u64 0, .int .u64 0, .int .u64 0, .int .u64 0, .int .u64 0, .int .u64 0, .int .u64 0, .slice none 0 0, .slice none 0 0] 45 (0, 0)) := (Below.heap_setCell _ _ _ _ (by simp)).trans s3
          have y2 : ((v7.setCell ⟨w.heap.size + 1 + 1, 10, none⟩ (.slice A5 (on + 1) c5)).setCell ⟨w.heap.size + 1 + 1, 0, none⟩ (.int .i64 q)).heap[w.heap.size + 1 + 1]? = some (.cells #[.int .i64 q, .int .u64 z0, .int .u64 z1, .int .u64 z2, .int .u64 z3, .int .u64 z4, .int .u64 z5, .int .u64 z6, .int .u64 z7, .slice MA mn mc, .slice A5 (on + 1) c5] 45 (0, 0)) := Joins.block_setCell t2 _
          have y3 : ((v7.setCell ⟨w.heap.size + 1 + 1, 10, none⟩ (.slice A5 (on + 1) c5)).setCell ⟨w.heap.size + 1 + 1, 0, none⟩ (.int .i64 q)).heap[w.heap.size + 1 + 1 + 1]? = some (.cells #[.int .i64 0, .int .u64 0, .int .u64 0, .int .u64 0, .int .u64 0, .int .u64 0, .int .u64 0, .int .u64 0, .int .u64 0, .slice none 0 0, .slice none 0 0] 45 (0, 0)) := (Below.heap_setCell _ _ _ _ (by simp)).trans t3
          have hb6 := b5.setCell (p := ⟨w.heap.size + 1 + 1, 0, none⟩) (by simp; omega) (.int .i64 q)
          have cfq := cells_below b5 HFQ.out HFB.out
          have hmi := HMI.out
          have d10 := row_cell s2 10
          have g10 := Joins.unfrozen_of_block s2 10
          have d0 := row_cell t2 0
          have g0 := Joins.unfrozen_of_block t2 0
          have q4 := row_cell t0 4
          have i4 := row_cell t1 4
          simp at d10 d0 q4 i4
          have x0 := row_cell y2 0
          have x1 := row_cell y2 1
          have x2 := row_cell y2 2
          have x3 := row_cell y2 3
          have x4 := row_cell y2 4
          have x5 := row_cell y2 5
          have x6 := row_cell y2 6
          have x7 := row_cell y2 7
          have x8 := row_cell y2 8
          have x9 := row_cell y2 9
          have x10 := row_cell y2 10
          simp at x0 x1 x2 x3 x4 x5 x6 x7 x8 x9 x10
          have Y3 := Lib.hid y3
          have HB6 := Lib.hid hb6
          clear s0 s1 s2 s3 t0 t1 t2 t3 y2 y3 b5 hb6
          have h1c : (#[.int .i64 q, .int .u64 z0, .int .u64 z1, .int .u64 z2, .int .u64 z3, .int .u64 z4, .int .u64 z5, .int .u64 z6, .int .u64 z7, .slice MA mn mc, .slice A5 (on + 1) c5] : Array Value).all (·.oneCell') = true := by simp [Value.oneCell']
          have H1C := Lib.hid h1c
          clear h1c
          go_wp2_with (with_reducible refine store_r (.tmp 6) (.tmp 84) _ _ #[.int .i64 q, .int .u64 z0, .int .u64 z1, .int .u64 z2, .int .u64 z3, .int .u64 z4, .int .u64 z5, .int .u64 z6, .int .u64 z7, .slice MA mn mc, .slice A5 (on + 1) c5] Y3.out rfl rfl rfl rfl rfl rfl H1C.out ?_)
          refine ret_r2 (w.heap.size + 1 + 1 + 1) #[.int .i64 q, .int .u64 z0, .int .u64 z1, .int .u64 z2, .int .u64 z3, .int .u64 z4, .int .u64 z5, .int .u64 z6, .int .u64 z7, .slice MA mn mc, .slice A5 (on + 1) c5] (.int .i64 0) (setRow_heap _ _ _ _ _ _ Y3.out) rfl rfl rfl rfl rfl ?_
          refine ⟨A5, c5, rfl, ?_, below_setRowM HB6.out (by omega) _⟩
          refine Joins.ownsRow_le (ownsRow.blk HOWN.out fun k hk => ?_) HB.out.size
          have := (HOWN.out.lt k hk).1
          have := HZ.out
          rw [setRow_other _ _ _ _ (by omega), Below.heap_setCell _ _ _ _ (by simp; omega), Below.heap_setCell _ _ _ _ (by simp; omega)]
  · go_simp
    have hbx := Below.box v0 (.cells #[.int .i64 (pl + 1)] 3)
    have hS2 : Below w4.heap.size w4 (v0.alloc (.cells #[.int .i64 (pl + 1)] 3)) := HH0.out.trans (hbx.mono (HH0.out).size)
    refine hK.out _ _ hS2 (fun hHeld => ?_)
    clear hK K
    have hF : (v0.alloc (.cells #[.int .i64 (pl + 1)] 3)).cell? ⟨v0.heap.size, 0, none⟩ = some (.int .i64 (pl + 1)) := by simp
    have hgl : v0.heap.size < (v0.alloc (.cells #[.int .i64 (pl + 1)] 3)).heap.size := by simp
    have hLold : v0.heap.size ≤ (v0.alloc (.cells #[.int .i64 (pl + 1)] 3)).heap.size := by simp
    obtain ⟨g48_v8, hg48_v8⟩ : ∃ g, g = v0.heap.size := ⟨_, rfl⟩
    generalize v0.alloc (.cells #[.int .i64 (pl + 1)] 3) = v8 at *
    simp only [← hg48_v8] at hF hgl hHeld ⊢
    have HFv8 := Lib.hid hF
    have HLv8 := Lib.hid hgl
    have HSSv8 := Lib.hid hS2
    clear hF hgl hS2 hbx hLold hg48_v8
    try simp only [List.getElem_toArray, List.getElem_cons_succ, List.getElem_cons_zero, Act.put, List.setIfInBounds_toArray, List.set_cons_zero, List.set_cons_succ]
    refine headS_ready (rs := [0]) (by kernel_rfl) (by simp) (by rfl) ?_
    refine AllS.cons rfl (fun K hK => ?_) (AllS.nil)
    · go_simp
      have hbx := Below.box v8 (.cells #[] 3)
      have hS2 : Below w4.heap.size w4 (v8.alloc (.cells #[] 3)) := HSSv8.out.trans (hbx.mono (HSSv8.out).size)
      refine hK.out _ _ hS2 (fun hHeld => ?_)
      clear hK K
      have hF : (v8.alloc (.cells #[] 3)).ownsRow w4.heap.size 3 1 (.slice (some ⟨v8.heap.size, 0, none⟩) 0 0) 0 [] := Joins.ownsRow_le (own_newI v8) (HSSv8.out).size
      have hgl : v8.heap.size < (v8.alloc (.cells #[] 3)).heap.size := by simp
      have hT48 := cells_below hbx HFv8.out HLv8.out
      have hne : g48_v8 < v8.heap.size := HLv8.out
      have hLold : v8.heap.size ≤ (v8.alloc (.cells #[] 3)).heap.size := by simp
      obtain ⟨g41_v9, hg41_v9⟩ : ∃ g, g = v8.heap.size := ⟨_, rfl⟩
      generalize v8.alloc (.cells #[] 3) = v9 at *
      simp only [← hg41_v9] at hF hgl hHeld ⊢
      simp only [← hg41_v9] at hne
      have HFv9 := Lib.hid hF
      have HLv9 := Lib.hid hgl
      have HSSv9 := Lib.hid hS2
      have HT48v9 := Lib.hid hT48
      have HL48v9 := Lib.hid (Nat.lt_of_lt_of_le HLv8.out hLold)
      have HNEv9 := Lib.hid hne
      clear hF hgl hS2 hbx hLold hT48 hne hg41_v9
      try simp only [List.getElem_toArray, List.getElem_cons_succ, List.getElem_cons_zero, Act.put, List.setIfInBounds_toArray, List.set_cons_zero, List.set_cons_succ]
      refine headS_ready (rs := [3]) (by kernel_rfl) (by simp) (by rfl) ?_
      refine AllS.cons rfl (fun K hK => ?_) (AllS.nil)
      · obtain ⟨i0', hi0, hzz0, hzz1, hzz2⟩ := info_parts i64_infoR
        refine step_apO rfl (.tmp 41) (.tmp 43) 23 rfl w4.heap.size 3 i0' _ 8 Tryd.underlying23 hi0 hzz0 hzz1 hzz2 rfl (.slice (some ⟨g41_v9, 0, none⟩) 0 0) 0 [] (by rfl) HFv9.out OA on oc (op.map (Value.int .i64)) (by rfl) ((HO.out.below (HB.out.trans ((HSSv9.out).mono HB.out.size))).sl) HO.out.hnone (one_cell64M _) (by simp only [maxLen]; omega) (by omega) (HSSv9.out).size on (op.map (Value.int .i64)) (by omega) rfl ?_
        intro A4 c4 v10 hc1 hc2 hown hb2 hgr
        have hS2 : Below w4.heap.size w4 v10 := (HSSv9.out).trans hb2
        have hT48 := hgr.cell HT48v9.out (by have := HNEv9.out; simp only [Value.ownBlock]; intro h; injection h with h; omega)
        have hL48 := Nat.lt_of_lt_of_le HL48v9.out hgr.size
        refine hK.out _ _ hS2 (fun hHeld => ?_)
        clear hK K
        have HFv10 := Lib.hid hown
        have HSSv10 := Lib.hid hS2
        have HT48v10 := Lib.hid hT48
        have HL48v10 := Lib.hid hL48
        clear hown hS2 hb2 hgr hc1 hc2 hzz0 hzz1 hzz2 hi0 hT48 hL48
        try simp only [List.getElem_toArray, List.getElem_cons_succ, List.getElem_cons_zero, Act.put, List.setIfInBounds_toArray, List.set_cons_zero, List.set_cons_succ]
        refine headS_ready (rs := [8]) (by kernel_rfl) (by simp) (by rfl) ?_
        refine AllS.cons rfl (fun K hK => ?_) (AllS.nil)
        · obtain ⟨i0', hi0, hzz0, hzz1, hzz2⟩ := info_parts i64_infoR
          refine step_apO rfl (.tmp 44) (.tmp 48) 23 rfl w4.heap.size 3 i0' _ 8 Tryd.underlying23 hi0 hzz0 hzz1 hzz2 rfl (.slice A4 on c4) on (op.map (Value.int .i64)) (by rfl) HFv10.out (some ⟨g48_v8, 0, none⟩) 1 1 [.int .i64 (pl + 1)] (by rfl) (one_slR HL48v10.out HT48v10.out) (fun h => by cases h) (by simp [Value.oneCell']) (by simp only [maxLen]; omega) (by omega) (HSSv10.out).size (on + 1) ((op ++ [pl + 1]).map (Value.int .i64)) rfl (by simp) ?_
          intro A5 c5 v11 hc1 hc2 hown hb2 hgr
          have hS2 : Below w4.heap.size w4 v11 := (HSSv10.out).trans hb2
          refine hK.out _ _ hS2 (fun hHeld => ?_)
          clear hK K
          have HOWN := Lib.hid hown
          have HSS := Lib.hid hS2
          clear hown hS2 hb2 hgr hc1 hc2 hzz0 hzz1 hzz2 hi0
          try simp only [List.getElem_toArray, List.getElem_cons_succ, List.getElem_cons_zero, Act.put, List.setIfInBounds_toArray, List.set_cons_zero, List.set_cons_succ]
          refine headS_take (i := 9) (v := .pointer (some ⟨w.heap.size + 1 + 1, 10, none⟩)) rfl (by kernel_rfl) (fun _ _ _ h => h) (Or.inl ⟨by rfl, fun w9 hSw => ?_⟩) hHeld ?_
          · (try dsimp only at hSw)
            go_simp
          try simp only [List.getElem_toArray, List.getElem_cons_succ, List.getElem_cons_zero, Act.put, List.setIfInBounds_toArray, List.set_cons_zero, List.set_cons_succ]
          refine ⟨by kernel_rfl, ?_⟩
          simp only [List.drop_succ_cons, List.drop_zero]
          have hz4 := HZ.out
          have s0 := (HSS.out.block w.heap.size (by omega)).trans H4.out.1
          have s1 := (HSS.out.block (w.heap.size + 1) (by omega)).trans H4.out.2.1
          have s2 := (HSS.out.block (w.heap.size + 1 + 1) (by omega)).trans H4.out.2.2.1
          have s3 := (HSS.out.block (w.heap.size + 1 + 1 + 1) (by omega)).trans H4.out.2.2.2
          have hl3 : w.heap.size + 1 + 1 + 1 < v11.heap.size := by have := HSS.out.size; omega
          have HL3 := Lib.hid hl3
          have b5 : Below w.heap.size w (v11.setCell ⟨w.heap.size + 1 + 1, 10, none⟩ (.slice A5 (on + 1) c5)) := (HB.out.trans (HSS.out.mono HB.out.size)).setCell (by simp; omega) _
          clear hz4 hl3
          have t0 : (v11.setCell ⟨w.heap.size + 1 + 1, 10, none⟩ (.slice A5 (on + 1) c5)).heap[w.heap.size]? = _ := (Below.heap_setCell _ _ _ _ (by simp; omega)).trans s0
          have t1 : (v11.setCell ⟨w.heap.size + 1 + 1, 10, none⟩ (.slice A5 (on + 1) c5)).heap[w.heap.size + 1]? = _ := (Below.heap_setCell _ _ _ _ (by simp)).trans s1
          have t2 : (v11.setCell ⟨w.heap.size + 1 + 1, 10, none⟩ (.slice A5 (on + 1) c5)).heap[w.heap.size + 1 + 1]? = some (.cells #[.int .i64 pl, .int .u64 z0, .int .u64 z1, .int .u64 z2, .int .u64 z3, .int .u64 z4, .int .u64 z5, .int .u64 z6, .int .u64 z7, .slice MA mn mc, .slice A5 (on + 1) c5] 45 (0, 0)) := Joins.block_setCell s2 _
          have t3 : (v11.setCell ⟨w.heap.size + 1 + 1, 10, none⟩ (.slice A5 (on + 1) c5)).heap[w.heap.size + 1 + 1 + 1]? = some (.cells #[.int .i64 0, .int .u64 0, .int .u64 0, .int .u64 0, .int .u64 0, .int .u64 0, .int .u64 0, .int .u64 0, .int .u64 0, .slice none 0 0, .slice none 0 0] 45 (0, 0)) := (Below.heap_setCell _ _ _ _ (by simp)).trans s3
          have y2 : ((v11.setCell ⟨w.heap.size + 1 + 1, 10, none⟩ (.slice A5 (on + 1) c5)).setCell ⟨w.heap.size + 1 + 1, 0, none⟩ (.int .i64 q)).heap[w.heap.size + 1 + 1]? = some (.cells #[.int .i64 q, .int .u64 z0, .int .u64 z1, .int .u64 z2, .int .u64 z3, .int .u64 z4, .int .u64 z5, .int .u64 z6, .int .u64 z7, .slice MA mn mc, .slice A5 (on + 1) c5] 45 (0, 0)) := Joins.block_setCell t2 _
          have y3 : ((v11.setCell ⟨w.heap.size + 1 + 1, 10, none⟩ (.slice A5 (on + 1) c5)).setCell ⟨w.heap.size + 1 + 1, 0, none⟩ (.int .i64 q)).heap[w.heap.size + 1 + 1 + 1]? = some (.cells #[.int .i64 0, .int .u64 0, .int .u64 0, .int .u64 0, .int .u64 0, .int .u64 0, .int .u64 0, .int .u64 0, .int .u64 0, .slice none 0 0, .slice none 0 0] 45 (0, 0)) := (Below.heap_setCell _ _ _ _ (by simp)).trans t3
          have hb6 := b5.setCell (p := ⟨w.heap.size + 1 + 1, 0, none⟩) (by simp; omega) (.int .i64 q)
          have cfq := cells_below b5 HFQ.out HFB.out
          have hmi := HMI.out
          have d10 := row_cell s2 10
          have g10 := Joins.unfrozen_of_block s2 10
          have d0 := row_cell t2 0
          have g0 := Joins.unfrozen_of_block t2 0
          have q4 := row_cell t0 4
          have i4 := row_cell t1 4
          simp at d10 d0 q4 i4
          have x0 := row_cell y2 0
          have x1 := row_cell y2 1
          have x2 := row_cell y2 2
          have x3 := row_cell y2 3
          have x4 := row_cell y2 4
          have x5 := row_cell y2 5
          have x6 := row_cell y2 6
          have x7 := row_cell y2 7
          have x8 := row_cell y2 8
          have x9 := row_cell y2 9
          have x10 := row_cell y2 10
          simp at x0 x1 x2 x3 x4 x5 x6 x7 x8 x9 x10
          have Y3 := Lib.hid y3
          have HB6 := Lib.hid hb6
          clear s0 s1 s2 s3 t0 t1 t2 t3 y2 y3 b5 hb6
          have h1c : (#[.int .i64 q, .int .u64 z0, .int .u64 z1, .int .u64 z2, .int .u64 z3, .int .u64 z4, .int .u64 z5, .int .u64 z6, .int .u64 z7, .slice MA mn mc, .slice A5 (on + 1) c5] : Array Value).all (·.oneCell') = true := by simp [Value.oneCell']
          have H1C := Lib.hid h1c
          clear h1c
          go_wp2_with (with_reducible refine store_r (.tmp 6) (.tmp 84) _ _ #[.int .i64 q, .int .u64 z0, .int .u64 z1, .int .u64 z2, .int .u64 z3, .int .u64 z4, .int .u64 z5, .int .u64 z6, .int .u64 z7, .slice MA mn mc, .slice A5 (on + 1) c5] Y3.out rfl rfl rfl rfl rfl rfl H1C.out ?_)
          refine ret_r2 (w.heap.size + 1 + 1 + 1) #[.int .i64 q, .int .u64 z0, .int .u64 z1, .int .u64 z2, .int .u64 z3, .int .u64 z4, .int .u64 z5, .int .u64 z6, .int .u64 z7, .slice MA mn mc, .slice A5 (on + 1) c5] (.int .i64 0) (setRow_heap _ _ _ _ _ _ Y3.out) rfl rfl rfl rfl rfl ?_
          refine ⟨A5, c5, rfl, ?_, below_setRowM HB6.out (by omega) _⟩
          refine Joins.ownsRow_le (ownsRow.blk HOWN.out fun k hk => ?_) HB.out.size
          have := (HOWN.out.lt k hk).1
          have := HZ.out
          rw [setRow_other _ _ _ _ (by omega), Below.heap_setCell _ _ _ _ (by simp; omega), Below.heap_setCell _ _ _ _ (by simp; omega)]
end Go.Proofs.YtfhnigfghfmolaaDoor
