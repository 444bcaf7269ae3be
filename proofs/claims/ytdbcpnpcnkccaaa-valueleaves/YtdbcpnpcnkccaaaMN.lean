/-
  Layer 7: contract of values.
  Layer 7: contracts of rootOf, Of, Byte.
  Layer 7: contract of All.
-/
import Derived.Test.YtdbcpnpcnkccaaaMI
import Derived.Test.YtdbcpnpcnkccaaaMM
set_option linter.unusedSimpArgs false
set_option linter.unusedVariables false
namespace Go.Proofs.Ytdbcpnpcnkccaaa
set_option maxRecDepth 100000
open Go.RowKit Go.Maps

theorem info100 : (Try.prog.info? 100).map (fun i => (i.zero, i.size, i.bytes)) = some (some .nilIface, 1, 16) := by kernel_rfl
theorem run_mk100 (len : Nat) (hl : len ≤ 1000000) (W : World) : (Instr.makeSlice 109 (.int .i64 0) (.int .i64 (len : Int))).run Try.prog W = .ok (.slice (some ⟨W.heap.size, 0, none⟩) 0 len) (W.alloc (.cells (madeCells #[.nilIface] len) 100)) := by
  obtain ⟨i, hi, hz⟩ := Option.map_eq_some_iff.1 info100
  simp only [Prod.mk.injEq] at hz
  obtain ⟨h1, h2, h3⟩ := hz
  have h := run_make (P := Try.prog) W 109 100 i _ Try.underlying109 hi h1 .i64 .i64 0 (len : Int) (by omega) (by omega) (by rw [h3]; omega) (by omega)
  rw [h2] at h
  simpa [Value.cells] using h

theorem BtR.in_none {w : World} {A : Option Addr} {len cap : Nat} {l : List Int} (h : BtR w A len cap l) : BtIn w (fun _ => False) A len cap l := ⟨h, fun _ _ _ h => h⟩
theorem EnIn.low {w w' : World} {F : Nat → Prop} {E : EnV} {e : Vl.Env} (h : EnIn w (fun _ => False) E e) (hb : Below w.heap.size w w') (hF : ∀ b, F b → w.heap.size ≤ b) : EnIn w' F E e :=
  (h.more (G := F) fun b hg => .inr (hF b hg)).keep (Keep.of_below hb)
/-- The row's own block. -/
def Own (A : Option Addr) : Nat → Prop := fun b => oblk A = some b
theorem VaIn.one {w : World} {F : Nat → Prop} {v : Value} {m : Vl.M} (h : VaIn w F v m) : ∃ t x, v = .iface t x := by
  cases m with
  | num n => exact ⟨_, _, h⟩
  | arr f => obtain ⟨p, o, e, _⟩ := h; exact ⟨_, _, e⟩
abbrev EnB (w : World) (b : Nat) (E : EnV) : Prop := Blk w b 43 #[.slice E.A1 E.n1 E.c1, .int .u64 E.r0, .int .u64 E.r1, .int .u64 E.r2, .int .u64 E.r3, .int .u64 E.r4, .int .u64 E.r5, .int .u64 E.r6, .int .u64 E.r7, .slice E.A2 E.n2 E.c2]
theorem EnB.cells {w : World} {b : Nat} {E : EnV} (h : EnB w b E) : w.cell? ⟨b, 0, none⟩ = some (.slice E.A1 E.n1 E.c1) ∧ w.cell? ⟨b, 1, none⟩ = some (.int .u64 E.r0) ∧ w.cell? ⟨b, 2, none⟩ = some (.int .u64 E.r1) ∧ w.cell? ⟨b, 3, none⟩ = some (.int .u64 E.r2) ∧ w.cell? ⟨b, 4, none⟩ = some (.int .u64 E.r3) ∧ w.cell? ⟨b, 5, none⟩ = some (.int .u64 E.r4) ∧ w.cell? ⟨b, 6, none⟩ = some (.int .u64 E.r5) ∧ w.cell? ⟨b, 7, none⟩ = some (.int .u64 E.r6) ∧ w.cell? ⟨b, 8, none⟩ = some (.int .u64 E.r7) ∧ w.cell? ⟨b, 9, none⟩ = some (.slice E.A2 E.n2 E.c2) := ⟨Blk.c h 0, Blk.c h 1, Blk.c h 2, Blk.c h 3, Blk.c h 4, Blk.c h 5, Blk.c h 6, Blk.c h 7, Blk.c h 8, Blk.c h 9⟩
/-- The values so far, in a row of the call's own. -/
structure VsR (n0 : Nat) (wr : World) (A : Option Addr) (k cap : Nat) (ms : Nat → Vl.M) (vs : List Value) : Prop where
  row : wr.ownsRow n0 100 1 (.slice A k cap) k vs
  len : vs.length = k
  at' : ∀ i, i < k → VaIn wr (Own A) (vs.getD i .nilIface) (ms i)
theorem VsR.hA {n0 : Nat} {wr : World} {A : Option Addr} {k cap : Nat} {ms : Nat → Vl.M} {vs : List Value} (h : VsR n0 wr A k cap ms vs) : ∀ b, Own A b → n0 ≤ b ∧ b < wr.heap.size := fun b hb => h.row.lt b (by rw [own_is]; exact hb)
theorem VsR.below {n0 : Nat} {wr w' : World} {A : Option Addr} {k cap : Nat} {ms : Nat → Vl.M} {vs : List Value} (h : VsR n0 wr A k cap ms vs) (hb : Below wr.heap.size wr w') : VsR n0 w' A k cap ms vs :=
  ⟨own_below h.row hb, h.len, fun i hi => (h.at' i hi).keep (Keep.of_below hb)⟩
theorem VsR.kn {n0 : Nat} {wr : World} {A : Option Addr} {k cap : Nat} {ms : Nat → Vl.M} {vs : List Value} (h : VsR n0 wr A k cap ms vs) : KnIn wr (Own A) A k cap ms := by
  have hat := h.at'
  have hlen := h.len
  rcases h.row.2 with ⟨e, h0⟩ | ⟨g, cap', cur, e, hb, hg, hn, hm, hc, ht⟩
  · injection e with e1 e2 e3
    subst h0
    exact ⟨Nat.zero_le _, by omega, fun h => absurd h (by omega)⟩
  · injection e with e1 e2 e3
    subst e1 e3
    refine ⟨hn, hm, fun h0 => ⟨g, 0, rfl, (Array.getElem?_eq_some_iff.1 hg).1, fun i hi => ⟨_, ?_, hat i hi⟩⟩⟩
    have := h.row.cells (g := g) rfl i (vs.getD i .nilIface) (by rw [List.getD_eq_getElem?_getD, List.getElem?_eq_getElem (by omega)]; rfl)
    rw [add_at, Nat.zero_add] at this
    rw [Nat.zero_add]
    exact this
/-- One value more. -/
theorem VsR.app {n0 : Nat} {w w' : World} {A A' : Option Addr} {k cap cap' : Nat} {ms : Nat → Vl.M} {vs : List Value} {v : Value} {L : List Value} (h : VsR n0 w A k cap ms vs) (hv : VaIn w (Own A) v (ms k)) (hL : vs ++ [v] = L)
    (hr : w'.ownsRow n0 100 1 (.slice A' (k + 1) cap') (k + 1) L) (hg : w.grownBy w' (Value.slice A k cap).ownBlock) (hm : oblk A' = (Value.slice A k cap).ownBlock ∨ oblk A' = some w.heap.size) : VsR n0 w' A' (k + 1) cap' ms L := by
  subst hL
  rw [own_is] at hg hm
  have hk : Keep (Own A) w w' := ⟨hg.size, fun b hb hf => hg.block b hb fun e => hf e.symm⟩
  have hlen := h.len
  have hmore : ∀ {u : Value} {m : Vl.M}, VaIn w (Own A) u m → VaIn w' (Own A') u m := fun hu => by
    rcases hm with hm | hm
    · have : Own A' = Own A := by funext b; simp [Own, hm]
      rw [this]; exact hu.keep hk
    · refine ((hu.more (G := fun b => Own A b ∨ Own A' b) fun b hb => ?_).keep ⟨hk.size, fun b hb hf => hk.block b hb fun h => hf (.inl h)⟩).more fun b hb => .inl (.inr hb)
      rcases hb with hb | hb
      · exact .inl hb
      · right; have hb : oblk A' = some b := hb; rw [hm] at hb; injection hb with hb; omega
  refine ⟨hr, by rw [List.length_append, hlen]; rfl, fun i hi => ?_⟩
  rcases Nat.lt_or_ge i k with h1 | h1
  · rw [List.getD_eq_getElem?_getD, List.getElem?_append_left (by omega), ← List.getD_eq_getElem?_getD]
    exact hmore (h.at' i h1)
  · have e : i = k := by omega
    subst e
    rw [List.getD_eq_getElem?_getD, List.getElem?_append_right (by omega), hlen, Nat.sub_self]
    exact hmore hv

/-- What values answers. -/
def VsP (X : List Tm.Nd) (len : Nat) (e : Vl.Env) (w : World) (en : Ending) (w' : World) : Prop :=
  if (Tm.chk X).1 = 0 then ∃ A cap vs, en = .returned (.tuple #[.slice A len cap, .int .i64 0]) ∧ VsR w.heap.size w' A len cap (Vl.mean X e) vs ∧ Below w.heap.size w w'
  else en = .returned (.tuple #[.slice none 0 0, .int .i64 (Tm.chk X).1]) ∧ Below w.heap.size w w'

set_option maxHeartbeats 4000000 in
theorem values_bad (AX : Option Addr) (len cap : Nat) (X : List Tm.Nd) (E : EnV) (e : Vl.Env) (w : World) (hX : NdSl w AX len cap X) (hl : len ≤ 65536) (hc : (Tm.chk X).1 ≠ 0) :
    Calls Try.prog 52 #[.slice AX len cap, E.v] w (VsP X len e w) := by
  have HP : VsP X len e w = fun en w' => en = .returned (.tuple #[.slice none 0 0, .int .i64 (Tm.chk X).1]) ∧ Below w.heap.size w w' := by funext en w'; rw [VsP, if_neg hc]
  rw [HP]
  clear HP
  obtain ⟨A1, n1, c1, r0, r1, r2, r3, r4, r5, r6, r7, A2, n2, c2⟩ := E
  have hB := Below.box w (.cells #[.slice A1 n1 c1, .int .u64 r0, .int .u64 r1, .int .u64 r2, .int .u64 r3, .int .u64 r4, .int .u64 r5, .int .u64 r6, .int .u64 r7, .slice A2 n2 c2] 43)
  have hX2 := hX.below hB
  have HC := Lib.hid (check_any AX len cap X _ hX2.nd hX2.hlen hX2.u hl)
  have HB := Lib.hid hB
  have hne : ((Tm.chk X).1 != 0) = true := by simpa using hc
  clear hB hX hX2
  generalize (Tm.chk X).1 = c at *
  generalize (Tm.chk X).2 = c' at *
  clear hc
  go_enter Try.func52, Try.ntmps52
  go_wp2_with (go_at_call 17; refine HC.out.mono ?_; rintro en w' ⟨rfl, hb⟩; have HB2 := Lib.hid hb; clear hb)
  go_ret2
  exact ⟨rfl, HB.out.trans (HB2.out.mono HB.out.size)⟩

set_option maxHeartbeats 8000000 in
theorem values_good (AX : Option Addr) (len cap : Nat) (X : List Tm.Nd) (E : EnV) (e : Vl.Env) (w : World) (hX : NdSl w AX len cap X) (hE : EnIn w (fun _ => False) E e) (hl : len ≤ 65536) (hc : (Tm.chk X).1 = 0) :
    Calls Try.prog 52 #[.slice AX len cap, E.v] w (VsP X len e w) := by
  have HP : VsP X len e w = fun en w' => ∃ A cap vs, en = .returned (.tuple #[.slice A len cap, .int .i64 0]) ∧ VsR w.heap.size w' A len cap (Vl.mean X e) vs ∧ Below w.heap.size w w' := by funext en w'; rw [VsP, if_pos hc]
  rw [HP]
  clear HP
  have hB := Below.box w (.cells #[.slice E.A1 E.n1 E.c1, .int .u64 E.r0, .int .u64 E.r1, .int .u64 E.r2, .int .u64 E.r3, .int .u64 E.r4, .int .u64 E.r5, .int .u64 E.r6, .int .u64 E.r7, .slice E.A2 E.n2 E.c2] 43)
  have hX2 := hX.below hB
  have HE := Lib.hid (hE.keep (Keep.of_below hB))
  have HC := Lib.hid (check_any AX len cap X _ hX2.nd hX2.hlen hX2.u hl)
  rw [hc] at HC
  have HX := Lib.hid hX2
  have HB := Lib.hid hB
  have hb1 : Blk (w.alloc (.cells #[.slice E.A1 E.n1 E.c1, .int .u64 E.r0, .int .u64 E.r1, .int .u64 E.r2, .int .u64 E.r3, .int .u64 E.r4, .int .u64 E.r5, .int .u64 E.r6, .int .u64 E.r7, .slice E.A2 E.n2 E.c2] 43)) w.heap.size 43 #[.slice E.A1 E.n1 E.c1, .int .u64 E.r0, .int .u64 E.r1, .int .u64 E.r2, .int .u64 E.r3, .int .u64 E.r4, .int .u64 E.r5, .int .u64 E.r6, .int .u64 E.r7, .slice E.A2 E.n2 E.c2] := Blk.new _ _ _
  have HB1 := Lib.hid hb1
  have hs1 : (w.alloc (.cells #[.slice E.A1 E.n1 E.c1, .int .u64 E.r0, .int .u64 E.r1, .int .u64 E.r2, .int .u64 E.r3, .int .u64 E.r4, .int .u64 E.r5, .int .u64 E.r6, .int .u64 E.r7, .slice E.A2 E.n2 E.c2] 43)).heap.size = w.heap.size + 1 := by simp
  have HS1 := Lib.hid hs1
  have hok : Tm.Ok X len := by have := (Tm.chk_ok_iff hc).2; rw [hX.hlen] at this; exact this
  have HOK := Lib.hid hok
  have HU := Lib.hid (fun j => hX.u j)
  have hmk := run_mk100 len (by omega)
  have HL := Lib.hid hl
  clear hX hE hB hX2 hc hb1 hok hs1 hl
  generalize (Tm.chk X).2 = c' at *
  have henv : E.v = .agg #[.slice E.A1 E.n1 E.c1, .int .u64 E.r0, .int .u64 E.r1, .int .u64 E.r2, .int .u64 E.r3, .int .u64 E.r4, .int .u64 E.r5, .int .u64 E.r6, .int .u64 E.r7, .slice E.A2 E.n2 E.c2] := rfl
  rw [henv]
  clear henv
  go_enter Try.func52, Try.ntmps52
  go_wp2_with (go_at_call 17; refine HC.out.mono ?_; rintro en w2 ⟨rfl, hb⟩; have HB2 := Lib.hid hb; clear hb)
  generalize w.alloc (.cells #[.slice E.A1 E.n1 E.c1, .int .u64 E.r0, .int .u64 E.r1, .int .u64 E.r2, .int .u64 E.r3, .int .u64 E.r4, .int .u64 E.r5, .int .u64 E.r6, .int .u64 E.r7, .slice E.A2 E.n2 E.c2] 43) = W1 at *
  have hst : VsR W1.heap.size (w2.alloc (.cells (madeCells #[.nilIface] len) 100)) (some ⟨w2.heap.size, 0, none⟩) 0 len (Vl.mean X e) [] := ⟨own_base (World.ownsRow_made (base := w2.heap.size) w2 _ len (Nat.le_refl _) (by have := HL.out; simp only [maxLen]; omega) (by simp [madeCells])) HB2.out.size, rfl, fun i hi => absurd hi (by omega)⟩
  have hbs : Below W1.heap.size W1 (w2.alloc (.cells (madeCells #[.nilIface] len) 100)) := HB2.out.trans ((Below.box _ _).mono HB2.out.size)
  have HST := Lib.hid hst
  have HBS := Lib.hid hbs
  clear hst hbs hmk HC HB2
  generalize w2.alloc (.cells (madeCells #[.nilIface] len) 100) = W3 at *
  generalize some (⟨w2.heap.size, 0, none⟩ : Addr) = A3 at *
  go_loopw [8, 24] (fun l t wr => ∃ (k : Nat) (A : Option Addr) (capk : Nat) (vs : List Value), k ≤ len ∧ t = .int .i64 k ∧ l = .slice A k capk ∧ VsR W1.heap.size wr A k capk (Vl.mean X e) vs ∧ Below W1.heap.size W1 wr) (fun _ t _ => len - (intOf t).toNat)
  case atStart => exact ⟨0, A3, len, [], Nat.zero_le _, rfl, rfl, HST.out, HBS.out⟩
  case round =>
    obtain ⟨k, A, capk, vs, hk, rfl, rfl, hvs, hbl⟩ := hrel
    by_cases hlt : k < len
    · have hk1 : (k : Int) < len := by omega
      have hk0 : (0 : Int) ≤ k := by omega
      have hXr := HX.out.below hbl
      obtain ⟨bb, oo, rfl, hbb, hx⟩ := hXr.nd.mem (by omega)
      obtain ⟨x0, x1, x2, x3, x4, x5⟩ := hx k hlt
      have hbel2 := Below.box wr (.cells #[.int .i64 (X.getD k Tm.z).op, .int .i64 (X.getD k Tm.z).w, .int .u64 (X.getD k Tm.z).n, .int .i64 (X.getD k Tm.z).a, .int .i64 (X.getD k Tm.z).b, .int .i64 (X.getD k Tm.z).c] 36)
      have hcm := comes_any X k _ len cap E e A capk (Own A) _ (fun j hj => HOK.out j (by omega)) HU.out (hXr.nd.below hbel2) hlt (hvs.below hbel2).kn (HE.out.low (hbl.trans (hbel2.mono hbl.size)) fun b hb => (hvs.hA b hb).1) (fun b hb => ((hvs.below hbel2).hA b hb).2)
      have HCM := Lib.hid hcm
      have hbv : EnB wr w.heap.size E := (hbl.block w.heap.size (by have := HS1.out; omega)).trans HB1.out
      obtain ⟨e0, e1, e2, e3, e4, e5, e6, e7, e8, e9⟩ := hbv.cells
      clear hbv
      have HV := Lib.hid hvs
      have HBL := Lib.hid hbl
      have hdb : wr.heap.size ≠ bb := by omega
      have hdw : w.heap.size < wr.heap.size := by have := HS1.out; have := hbl.size; omega
      clear hx hXr hvs hbl hcm hbel2
      generalize hnd : X.getD k Tm.z = nd at *
      have HND := Lib.hid hnd
      clear hnd
      obtain ⟨op, v, n, a, b, c⟩ := nd
      dsimp only [ndv] at x0 x1 x2 x3 x4 x5 HCM
      go_wp2_with fail
      refine Calls.mono HCM.out ?_
      rintro en w4 ⟨va, rfl, hva, hb4⟩
      obtain ⟨ty, xx, rfl⟩ := hva.one
      have HVA := Lib.hid hva
      have HB4 := Lib.hid hb4
      clear hva hb4 x0 x1 x2 x3 x4 x5 e0 e1 e2 e3 e4 e5 e6 e7 e8 e9
      have hbA : Below wr.heap.size wr w4 := (Below.box wr _).trans (HB4.out.mono (by simp))
      have hb5 : Below w4.heap.size w4 (w4.alloc (.cells #[.iface ty xx] 100)) := Below.box _ _
      have HV4 := Lib.hid (HV.out.below hbA)
      have HV5 := Lib.hid ((HV.out.below hbA).below hb5)
      have HVA5 := Lib.hid (HVA.out.keep (Keep.of_below hb5))
      have HBL5 := Lib.hid (HBL.out.trans ((hbA.trans (hb5.mono hbA.size)).mono HBL.out.size))
      have HLL := Lib.hid hlt
      have hcell : (w4.alloc (.cells #[.iface ty xx] 100)).cell? ⟨w4.heap.size, 0, none⟩ = some (.iface ty xx) := (Blk.new w4 #[.iface ty xx] 100).c 0
      have HCE := Lib.hid hcell
      have HS4 := Lib.hid (show W1.heap.size ≤ (w4.alloc (.cells #[.iface ty xx] 100)).heap.size from HBL5.out.size)
      have HON := Lib.hid (show ∀ u ∈ [Value.iface ty xx], u.oneCell' = true from fun u hu => by simp at hu; subst hu; rfl)
      have HNW := Lib.hid (show ∀ (j : Nat) u, [Value.iface ty xx][j]? = some u → (w4.alloc (.cells #[.iface ty xx] 100)).cell? ((⟨w4.heap.size, 0, none⟩ : Addr).add j) = some u from fun j u hu => by
        have hj : j = 0 := by
          rcases Nat.eq_zero_or_pos j with h | h
          · exact h
          · rw [List.getElem?_eq_none (by simp only [List.length_singleton]; omega)] at hu; cases hu
        subst hj
        simp at hu
        subst hu
        exact HCE.out)
      clear hbA hb5 hcell
      obtain ⟨i0, hi0, hz0, hz1, hz2⟩ := info_parts info100
      have hl6 : (len : Int) ≤ 65536 := by have := HL.out; omega
      go_wp2_with (at_builtin
                   refine wpList_apS (w := w4.alloc (.cells #[.iface ty xx] 100)) rfl (.tmp 28) (.tmp 34) 109 rfl W1.heap.size 100 i0 _ 1 16 Try.underlying109 hi0 hz0 hz1 hz2 rfl (by omega) (.slice A k capk) k vs rfl HV5.out.row ⟨w4.heap.size, 0, none⟩ 1 1 [.iface ty xx] rfl rfl HNW.out HON.out (by have := HL.out; simp only [maxLen]; omega) (by have := HL.out; omega) HS4.out (k + 1) (vs ++ [.iface ty xx]) rfl rfl ?_
                   intro A2 cap2 w5 hrow hgrow hmv
                   have HR5 := Lib.hid (HV5.out.app (L := vs ++ [.iface ty xx]) HVA5.out rfl hrow hgrow hmv)
                   have HG5 := Lib.hid ((HBL5.out.grown hgrow HS4.out (fun j hj => (HV5.out.row.lt j hj).1)))
                   clear hrow hgrow hmv)
      go_roundw
      case rel => exact ⟨k + 1, A2, cap2, vs ++ [.iface ty xx], by omega, by go_num, rfl, HR5.out, HG5.out⟩
      case measure => simp [intOf]; omega
    · have hke : k = len := by omega
      subst hke
      have HV := Lib.hid hvs
      have HBL := Lib.hid hbl
      clear hvs hbl
      go_wp2
      go_ret2
      exact ⟨A, capk, vs, rfl, ⟨own_base HV.out.row HB.out.size, HV.out.len, HV.out.at'⟩, HB.out.trans (HBL.out.mono HB.out.size)⟩
end Go.Proofs.Ytdbcpnpcnkccaaa
namespace Go.Proofs.Ytdbcpnpcnkccaaa
set_option maxRecDepth 100000
open Go.RowKit Go.Maps

theorem env_v (E : EnV) : E.v = .agg #[.slice E.A1 E.n1 E.c1, .int .u64 E.r0, .int .u64 E.r1, .int .u64 E.r2, .int .u64 E.r3, .int .u64 E.r4, .int .u64 E.r5, .int .u64 E.r6, .int .u64 E.r7, .slice E.A2 E.n2 E.c2] := rfl
theorem EnIn.box {w : World} {F : Nat → Prop} {E : EnV} {e : Vl.Env} (h : EnIn w F E e) : EnIn (w.alloc (.cells #[.slice E.A1 E.n1 E.c1, .int .u64 E.r0, .int .u64 E.r1, .int .u64 E.r2, .int .u64 E.r3, .int .u64 E.r4, .int .u64 E.r5, .int .u64 E.r6, .int .u64 E.r7, .slice E.A2 E.n2 E.c2] 43)) F E e := h.keep (Keep.of_below (Below.box _ _))
theorem asNil_A (w : World) : (Instr.typeAssert .nilIface 100 107 true).run Try.prog w = .ok (.tuple #[.agg #[.pointer none, .nilFunc], .bool false]) w := by kernel_rfl
theorem asNil_N (w : World) : (Instr.typeAssert .nilIface 100 103 true).run Try.prog w = .ok (.tuple #[.int .u64 0, .bool false]) w := by kernel_rfl

def RoP (X : List Tm.Nd) (len : Nat) (e : Vl.Env) (w : World) (en : Ending) (w' : World) : Prop :=
  Below w.heap.size w w' ∧ if (Tm.chk X).1 = 0 then ∃ v, en = .returned (.tuple #[v, .int .i64 0]) ∧ VaIn w' (fun _ => False) v (Vl.mean X e (len - 1))
  else en = .returned (.tuple #[.nilIface, .int .i64 (Tm.chk X).1])

set_option maxHeartbeats 4000000 in
theorem rootOf_any (AX : Option Addr) (len cap : Nat) (X : List Tm.Nd) (E : EnV) (e : Vl.Env) (w : World) (hX : NdSl w AX len cap X) (hE : EnIn w (fun _ => False) E e) (hl : len ≤ 65536) :
    Calls Try.prog 50 #[.slice AX len cap, E.v] w (RoP X len e w) := by
  have hB := Below.box w (.cells #[.slice E.A1 E.n1 E.c1, .int .u64 E.r0, .int .u64 E.r1, .int .u64 E.r2, .int .u64 E.r3, .int .u64 E.r4, .int .u64 E.r5, .int .u64 E.r6, .int .u64 E.r7, .slice E.A2 E.n2 E.c2] 43)
  have HB := Lib.hid hB
  by_cases hc : (Tm.chk X).1 = 0
  · have HC := Lib.hid (values_good AX len cap X E e _ (hX.below hB) hE.box hl hc)
    have hpos : 0 < len := by have := (Tm.chk_ok_iff hc).1; rw [hX.hlen] at this; exact this
    have e1 : ((len : Int) - 1) = ((len - 1 : Nat) : Int) := by omega
    obtain ⟨p, hp⟩ : ∃ p, len - 1 = p := ⟨_, rfl⟩
    have hpl : (p : Int) = (len : Int) - 1 := by omega
    have hpl' : (p : Int) < len := by omega
    have HP := Lib.hid (show p < len by omega)
    have HPE : RoP X len e w = fun en w' => Below w.heap.size w w' ∧ ∃ v, en = .returned (.tuple #[v, .int .i64 0]) ∧ VaIn w' (fun _ => False) v (Vl.mean X e p) := by funext en w'; rw [RoP, if_pos hc, hp]
    rw [HPE]
    have HCC := Lib.hid hc
    have HL := Lib.hid (show (len : Int) ≤ 65536 by omega)
    have e2 : (len : Int) - 1 = (p : Int) := by omega
    clear HPE hB hc hX hE hl e1 hp hpos hpl
    rw [env_v] at HC ⊢
    go_enter Try.func50, Try.ntmps50
    go_wp2_with fail
    refine Calls.mono HC.out ?_
    rintro en w2 hr
    rw [VsP, if_pos HCC.out] at hr
    obtain ⟨A, capk, vs, rfl, hvs, hb2⟩ := hr
    obtain ⟨bk, ok, rfl, hbk, hx⟩ := hvs.kn.mem (by have := HP.out; omega)
    obtain ⟨v, hv, hva⟩ := hx p HP.out
    have HVA := Lib.hid hva
    have HB2 := Lib.hid hb2
    have hl6 := HL.out
    clear hx hvs hva hb2 HC
    go_wp2
    go_ret2
    exact ⟨HB.out.trans (HB2.out.mono HB.out.size), v, rfl, HVA.out.more fun b h => .inl h.elim⟩
  · have HC := Lib.hid (values_bad AX len cap X E e _ (hX.below hB) hl hc)
    have HPE : RoP X len e w = fun en w' => Below w.heap.size w w' ∧ en = .returned (.tuple #[.nilIface, .int .i64 (Tm.chk X).1]) := by funext en w'; rw [RoP, if_neg hc]
    rw [HPE]
    have HV : VsP X len e (w.alloc (.cells #[.slice E.A1 E.n1 E.c1, .int .u64 E.r0, .int .u64 E.r1, .int .u64 E.r2, .int .u64 E.r3, .int .u64 E.r4, .int .u64 E.r5, .int .u64 E.r6, .int .u64 E.r7, .slice E.A2 E.n2 E.c2] 43)) = fun en w' => en = .returned (.tuple #[.slice none 0 0, .int .i64 (Tm.chk X).1]) ∧ Below (w.alloc (.cells #[.slice E.A1 E.n1 E.c1, .int .u64 E.r0, .int .u64 E.r1, .int .u64 E.r2, .int .u64 E.r3, .int .u64 E.r4, .int .u64 E.r5, .int .u64 E.r6, .int .u64 E.r7, .slice E.A2 E.n2 E.c2] 43)).heap.size (w.alloc (.cells #[.slice E.A1 E.n1 E.c1, .int .u64 E.r0, .int .u64 E.r1, .int .u64 E.r2, .int .u64 E.r3, .int .u64 E.r4, .int .u64 E.r5, .int .u64 E.r6, .int .u64 E.r7, .slice E.A2 E.n2 E.c2] 43)) w' := by funext en w'; rw [VsP, if_neg hc]
    rw [HV] at HC
    have hne : ((Tm.chk X).1 != 0) = true := by simpa using hc
    clear HPE HV hc hB hX hE hl
    generalize (Tm.chk X).1 = c at *
    rw [env_v] at HC ⊢
    go_enter Try.func50, Try.ntmps50
    go_wp2_with fail
    refine Calls.mono HC.out ?_
    rintro en w2 ⟨rfl, hb2⟩
    have HB2 := Lib.hid hb2
    clear hb2 HC
    go_wp2
    go_ret2
    exact ⟨HB.out.trans (HB2.out.mono HB.out.size), rfl⟩

/-- The term's value, and the error. -/
def Vl.ofR (X : List Tm.Nd) (e : Vl.Env) : Int × Int :=
  if (Tm.chk X).1 ≠ 0 then (0, (Tm.chk X).1) else if (X.getD (X.length - 1) Tm.z).w = 0 then (0, 8) else ((Vl.vals X e X.length).getD (X.length - 1) 0, 0)
def Vl.byR (X : List Tm.Nd) (e : Vl.Env) (k : Int) : Int × Int :=
  if (Tm.chk X).1 ≠ 0 then (0, (Tm.chk X).1) else if (X.getD (X.length - 1) Tm.z).w ≠ 0 then (0, 8) else (Vl.get X (Vl.vals X e X.length) e.mem X.length ((X.length - 1 : Nat) : Int) k, 0)
theorem Vl.mean_root {X : List Tm.Nd} {e : Vl.Env} (hc : (Tm.chk X).1 = 0) : 0 < X.length ∧ Vl.mean X e (X.length - 1) =
    if (X.getD (X.length - 1) Tm.z).w = 0 then .arr (fun k => Vl.get X (Vl.vals X e X.length) e.mem X.length ((X.length - 1 : Nat) : Int) k) else .num ((Vl.vals X e X.length).getD (X.length - 1) 0) := by
  obtain ⟨h0, hok⟩ := Tm.chk_ok_iff hc
  have h1 : X.length - 1 < X.length := by omega
  refine ⟨h0, ?_⟩
  by_cases hw : (X.getD (X.length - 1) Tm.z).w = 0
  · rw [if_pos hw, Vl.mean_arr (i := X.length) (Vl.down_of fun j hj => hok j (by omega)) h1 hw]
    have e1 : X.length - 1 + 1 = X.length := by omega
    rw [e1]
  · rw [if_neg hw, Vl.mean_num h1 hw]

set_option maxHeartbeats 4000000 in
theorem vof_any (AX : Option Addr) (len cap : Nat) (X : List Tm.Nd) (E : EnV) (e : Vl.Env) (w : World) (hX : NdSl w AX len cap X) (hE : EnIn w (fun _ => False) E e) (hl : len ≤ 65536) :
    Calls Try.prog 24 #[.slice AX len cap, E.v] w fun en w' => en = .returned (.tuple #[.int .u64 (Vl.ofR X e).1, .int .i64 (Vl.ofR X e).2]) ∧ Below w.heap.size w w' := by
  have hB := Below.box w (.cells #[.slice E.A1 E.n1 E.c1, .int .u64 E.r0, .int .u64 E.r1, .int .u64 E.r2, .int .u64 E.r3, .int .u64 E.r4, .int .u64 E.r5, .int .u64 E.r6, .int .u64 E.r7, .slice E.A2 E.n2 E.c2] 43)
  have HB := Lib.hid hB
  have HC := Lib.hid (rootOf_any AX len cap X E e _ (hX.below hB) hE.box hl)
  have hlen := hX.hlen
  have fNN := asN_N
  have fAN := asA_N
  have fAA := asA_A
  have fnA := asNil_A
  have fnN := asNil_N
  by_cases hc : (Tm.chk X).1 = 0
  · obtain ⟨_, hm⟩ := Vl.mean_root (e := e) hc
    rw [hlen] at hm
    by_cases hw : (X.getD (len - 1) Tm.z).w = 0
    · rw [if_pos hw] at hm
      have er : Vl.ofR X e = (0, 8) := by rw [Vl.ofR, if_neg (by simpa using hc), hlen, if_pos hw]
      rw [er]
      have HM := Lib.hid hm
      have HCC := Lib.hid hc
      clear hB hX hE hl hlen hm hc hw er
      rw [env_v] at HC ⊢
      go_enter Try.func24, Try.ntmps24
      go_wp2_with fail
      refine Calls.mono HC.out ?_
      rintro en w2 ⟨hb2, hr⟩
      rw [if_pos HCC.out, HM.out] at hr
      obtain ⟨v, rfl, p, o, rfl, har⟩ := hr
      obtain ⟨fn, cp, rfl⟩ : ∃ fn cap, o = .func fn #[] cap := by
        obtain ⟨t, g, _, ho, _⟩ := har.ex
        exact ho.func
      have HB2 := Lib.hid hb2
      clear hb2 HC har
      go_wp2
      go_ret2
      exact ⟨rfl, (HB.out.trans (HB2.out.mono HB.out.size)).trans ((Below.box _ _).mono (HB.out.trans (HB2.out.mono HB.out.size)).size)⟩
    · rw [if_neg hw] at hm
      have er : Vl.ofR X e = ((Vl.vals X e len).getD (len - 1) 0, 0) := by rw [Vl.ofR, if_neg (by simpa using hc), hlen, if_neg hw]
      rw [er]
      generalize (Vl.vals X e len).getD (len - 1) 0 = u at *
      have HM := Lib.hid hm
      have HCC := Lib.hid hc
      clear hB hX hE hl hlen hm hc hw er
      rw [env_v] at HC ⊢
      go_enter Try.func24, Try.ntmps24
      go_wp2_with fail
      refine Calls.mono HC.out ?_
      rintro en w2 ⟨hb2, hr⟩
      rw [if_pos HCC.out, HM.out] at hr
      obtain ⟨v, rfl, hv⟩ := hr
      obtain rfl : v = _ := hv
      have HB2 := Lib.hid hb2
      clear hb2 HC
      go_wp2
      go_ret2
      exact ⟨rfl, HB.out.trans (HB2.out.mono HB.out.size)⟩
  · have er : Vl.ofR X e = (0, (Tm.chk X).1) := by rw [Vl.ofR, if_pos hc]
    rw [er]
    have HCC := Lib.hid hc
    clear hB hX hE hl hlen hc er
    rw [env_v] at HC ⊢
    go_enter Try.func24, Try.ntmps24
    go_wp2_with fail
    refine Calls.mono HC.out ?_
    rintro en w2 ⟨hb2, hr⟩
    rw [if_neg HCC.out] at hr
    subst hr
    have HB2 := Lib.hid hb2
    clear hb2 HC
    go_wp2
    go_ret2
    exact ⟨rfl, HB.out.trans (HB2.out.mono HB.out.size)⟩
set_option maxHeartbeats 4000000 in
theorem byte_any (AX : Option Addr) (len cap : Nat) (X : List Tm.Nd) (E : EnV) (e : Vl.Env) (k : Nat) (w : World) (hX : NdSl w AX len cap X) (hE : EnIn w (fun _ => False) E e) (hl : len ≤ 65536) (hk : k < 18446744073709551616) :
    Calls Try.prog 28 #[.slice AX len cap, E.v, .int .u64 k] w fun en w' => en = .returned (.tuple #[.int .u8 (Vl.byR X e k).1, .int .i64 (Vl.byR X e k).2]) ∧ Below w.heap.size w w' := by
  have hB := Below.box w (.cells #[.slice E.A1 E.n1 E.c1, .int .u64 E.r0, .int .u64 E.r1, .int .u64 E.r2, .int .u64 E.r3, .int .u64 E.r4, .int .u64 E.r5, .int .u64 E.r6, .int .u64 E.r7, .slice E.A2 E.n2 E.c2] 43)
  have HB := Lib.hid hB
  have HC := Lib.hid (rootOf_any AX len cap X E e _ (hX.below hB) hE.box hl)
  have hlen := hX.hlen
  have fNN := asN_N
  have fAN := asA_N
  have fAA := asA_A
  have fnA := asNil_A
  have fnN := asNil_N
  by_cases hc : (Tm.chk X).1 = 0
  · obtain ⟨_, hm⟩ := Vl.mean_root (e := e) hc
    rw [hlen] at hm
    by_cases hw : (X.getD (len - 1) Tm.z).w = 0
    · rw [if_pos hw] at hm
      have er : Vl.byR X e k = (Vl.get X (Vl.vals X e len) e.mem len ((len - 1 : Nat) : Int) k, 0) := by rw [Vl.byR, if_neg (by simpa using hc), hlen, if_neg (by simpa using hw)]
      rw [er]
      have HM := Lib.hid hm
      have HCC := Lib.hid hc
      clear hB hX hE hl hlen hm hc hw er
      rw [env_v] at HC ⊢
      go_enter Try.func28, Try.ntmps28
      go_wp2_with fail
      refine Calls.mono HC.out ?_
      rintro en w2 ⟨hb2, hr⟩
      rw [if_pos HCC.out, HM.out] at hr
      obtain ⟨v, rfl, p, o, rfl, har⟩ := hr
      obtain ⟨fn, cp, rfl⟩ : ∃ fn cap, o = .func fn #[] cap := by
        obtain ⟨t, g, _, ho, _⟩ := har.ex
        exact ho.func
      have HB2 := Lib.hid hb2
      have HA := Lib.hid (byteAt_any p (.func fn #[] cp) _ k _ _ (har.keep (Keep.of_below (Below.box w2 (.cells #[.pointer p, .func fn #[] cp] 107)))) hk)
      clear hb2 HC har
      go_wp2_with (go_at_call 53; refine HA.out.mono ?_; rintro en w3 ⟨rfl, hb3⟩; have HB3 := Lib.hid hb3; clear hb3)
      go_ret2
      exact ⟨rfl, (HB.out.trans (HB2.out.mono HB.out.size)).trans (((Below.box w2 _).trans (HB3.out.mono (by simp))).mono (HB.out.trans (HB2.out.mono HB.out.size)).size)⟩
    · rw [if_neg hw] at hm
      have er : Vl.byR X e k = (0, 8) := by rw [Vl.byR, if_neg (by simpa using hc), hlen, if_pos (by simpa using hw)]
      rw [er]
      have HM := Lib.hid hm
      have HCC := Lib.hid hc
      clear hB hX hE hl hlen hm hc hw er
      rw [env_v] at HC ⊢
      go_enter Try.func28, Try.ntmps28
      go_wp2_with fail
      refine Calls.mono HC.out ?_
      rintro en w2 ⟨hb2, hr⟩
      rw [if_pos HCC.out, HM.out] at hr
      obtain ⟨v, rfl, hv⟩ := hr
      obtain rfl : v = _ := hv
      have HB2 := Lib.hid hb2
      clear hb2 HC
      go_wp2
      go_ret2
      exact ⟨rfl, HB.out.trans (HB2.out.mono HB.out.size)⟩
  · have er : Vl.byR X e k = (0, (Tm.chk X).1) := by rw [Vl.byR, if_pos hc]
    rw [er]
    have HCC := Lib.hid hc
    clear hB hX hE hl hlen hc er
    rw [env_v] at HC ⊢
    go_enter Try.func28, Try.ntmps28
    go_wp2_with fail
    refine Calls.mono HC.out ?_
    rintro en w2 ⟨hb2, hr⟩
    rw [if_neg HCC.out] at hr
    subst hr
    have HB2 := Lib.hid hb2
    clear hb2 HC
    go_wp2
    go_ret2
    exact ⟨rfl, HB.out.trans (HB2.out.mono HB.out.size)⟩
end Go.Proofs.Ytdbcpnpcnkccaaa
namespace Go.Proofs.Ytdbcpnpcnkccaaa
set_option maxRecDepth 100000
open Go.RowKit Go.Maps

/-- Numbers in memory. -/
structure UsR (w : World) (A : Option Addr) (len cap : Nat) (l : List Int) : Prop where
  hlen : l.length = len
  hle : len ≤ cap
  hcap : cap ≤ maxLen
  mem : 0 < len → ∃ b o, A = some ⟨b, o, none⟩ ∧ b < w.heap.size ∧ ∀ i, i < len → w.cell? ⟨b, o + i, none⟩ = some (.int .u64 (l.getD i 0))
theorem UsR.below {w w' : World} {A : Option Addr} {len cap : Nat} {l : List Int} (h : UsR w A len cap l) (hb : Below w.heap.size w w') : UsR w' A len cap l :=
  ⟨h.hlen, h.hle, h.hcap, fun h0 => by
    obtain ⟨b, o, e, hlt, hx⟩ := h.mem h0
    exact ⟨b, o, e, Nat.lt_of_lt_of_le hlt hb.size, fun i hi => (hb.cell (p := ⟨b, o + i, none⟩) hlt).trans (hx i hi)⟩⟩
theorem UsR.of_own {w : World} {base : Nat} {A : Option Addr} {n cap : Nat} {l : List Int} (h : w.ownsRow base 33 1 (.slice A n cap) n (l.map (Value.int .u64))) : UsR w A n cap l := by
  have hl : l.length = n := by have := h.1; simpa using this
  rcases h.2 with ⟨e, h0⟩ | ⟨g, cap', cur, e, hb, hg, hn, hm, hc, ht⟩
  · injection e with e1 e2 e3
    exact ⟨hl, by omega, by omega, fun h => absurd h (by omega)⟩
  · injection e with e1 e2 e3
    subst e1 e3
    refine ⟨hl, hn, hm, fun h0 => ⟨g, 0, rfl, (Array.getElem?_eq_some_iff.1 hg).1, fun i hi => ?_⟩⟩
    have := h.cells (g := g) rfl i (.int .u64 (l.getD i 0)) (by rw [List.getElem?_map, List.getD_eq_getElem?_getD, List.getElem?_eq_getElem (by omega)]; rfl)
    rw [add_at, Nat.zero_add] at this
    rw [Nat.zero_add]
    exact this
theorem info33 : (Try.prog.info? 33).map (fun i => (i.zero, i.size, i.bytes)) = some (some (.int .u64 0), 1, 8) := by kernel_rfl

/-- A node without a width is an array, its number 0. -/
theorem Vl.told_mean {X : List Tm.Nd} {e : Vl.Env} {i n : Nat} (hf : Tm.fltAt X i = 0) (hn : i < n) : Vl.told (Vl.mean X e i) = (Vl.vals X e n).getD i 0 := by
  rw [Vl.vals_at X e hn]
  by_cases hw : (X.getD i Tm.z).w = 0
  · have hm : ∃ f, Vl.mean X e i = .arr f := ⟨_, by rw [Vl.mean, if_pos hw]⟩
    obtain ⟨f, hm⟩ := hm
    obtain ⟨o0, o1, _⟩ := Tm.flt_zero (show Tm.flt (X.getD i Tm.z) i X = 0 from hf)
    have hs := Tm.kidn_spec (X.getD i Tm.z).op
    have ho : (X.getD i Tm.z).op = 3 ∨ (X.getD i Tm.z).op = 4 ∨ (X.getD i Tm.z).op = 24 := by
      rcases hs with ⟨h0, hk⟩ | ⟨h5, h7, hk⟩ | ⟨h2, hk⟩ | ⟨h8, h9, h22, hk⟩
      · rw [Vl.mean_leaf hf hk, Vl.leafM] at hm
        by_cases h1 : (X.getD i Tm.z).op = 1
        · rw [if_pos h1] at hm; cases hm
        rw [if_neg h1] at hm
        by_cases h2 : (X.getD i Tm.z).op = 2
        · rw [if_pos h2] at hm; cases hm
        rw [if_neg h2] at hm
        by_cases h3 : (X.getD i Tm.z).op = 3
        · exact .inl h3
        rw [if_neg h3] at hm
        by_cases h4 : (X.getD i Tm.z).op = 4
        · exact .inr (.inl h4)
        rw [if_neg h4] at hm; cases hm
      · rw [(Vl.mean1 (e := e) hf hk).2] at hm; cases hm
      · rcases h2 with h2 | h2
        · rw [(Vl.mean3 (e := e) hf h2).2.2.2] at hm; cases hm
        · exact .inr (.inr h2)
      · by_cases h23 : (X.getD i Tm.z).op = 23
        · rw [(Vl.mean23 (e := e) hf h23).2.2] at hm; cases hm
        · rw [(Vl.mean2 (e := e) hf hk h23).2.2] at hm; cases hm
    rw [hm, Vl.told, Vl.one, if_neg (by omega), if_neg (by omega), if_neg (by omega), if_pos ho]
  · rw [Vl.mean, if_neg hw, Vl.told]

/-- All's answer. -/
def Vl.alR (X : List Tm.Nd) (e : Vl.Env) : List Int := if (Tm.chk X).1 = 0 then Vl.vals X e X.length else []
def AlP (X : List Tm.Nd) (e : Vl.Env) (w : World) (en : Ending) (w' : World) : Prop :=
  ∃ A n cap, en = .returned (.tuple #[.slice A n cap, .int .i64 (Tm.chk X).1]) ∧ UsR w' A n cap (Vl.alR X e) ∧ Below w.heap.size w w'
theorem vals_succ (X : List Tm.Nd) (e : Vl.Env) (k : Nat) : Vl.vals X e (k + 1) = Vl.vals X e k ++ [(Vl.vals X e (k + 1)).getD k 0] := by rw [Vl.vals_new, Vl.vals]

set_option maxHeartbeats 8000000 in
theorem all_bad (AX : Option Addr) (len cap : Nat) (X : List Tm.Nd) (E : EnV) (e : Vl.Env) (w : World) (hX : NdSl w AX len cap X) (hl : len ≤ 65536) (hc : (Tm.chk X).1 ≠ 0) :
    Calls Try.prog 26 #[.slice AX len cap, E.v] w (AlP X e w) := by
  have hB := Below.box w (.cells #[.slice E.A1 E.n1 E.c1, .int .u64 E.r0, .int .u64 E.r1, .int .u64 E.r2, .int .u64 E.r3, .int .u64 E.r4, .int .u64 E.r5, .int .u64 E.r6, .int .u64 E.r7, .slice E.A2 E.n2 E.c2] 43)
  have HB := Lib.hid hB
  have HC := Lib.hid (values_bad AX len cap X E e _ (hX.below hB) hl hc)
  have HV : VsP X len e (w.alloc (.cells #[.slice E.A1 E.n1 E.c1, .int .u64 E.r0, .int .u64 E.r1, .int .u64 E.r2, .int .u64 E.r3, .int .u64 E.r4, .int .u64 E.r5, .int .u64 E.r6, .int .u64 E.r7, .slice E.A2 E.n2 E.c2] 43)) = fun en w' => en = .returned (.tuple #[.slice none 0 0, .int .i64 (Tm.chk X).1]) ∧ Below (w.alloc (.cells #[.slice E.A1 E.n1 E.c1, .int .u64 E.r0, .int .u64 E.r1, .int .u64 E.r2, .int .u64 E.r3, .int .u64 E.r4, .int .u64 E.r5, .int .u64 E.r6, .int .u64 E.r7, .slice E.A2 E.n2 E.c2] 43)).heap.size (w.alloc (.cells #[.slice E.A1 E.n1 E.c1, .int .u64 E.r0, .int .u64 E.r1, .int .u64 E.r2, .int .u64 E.r3, .int .u64 E.r4, .int .u64 E.r5, .int .u64 E.r6, .int .u64 E.r7, .slice E.A2 E.n2 E.c2] 43)) w' := by funext en w'; rw [VsP, if_neg hc]
  rw [HV] at HC
  have ha : Vl.alR X e = [] := if_neg hc
  have HP : AlP X e w = fun en w' => ∃ A n cap, en = .returned (.tuple #[.slice A n cap, .int .i64 (Tm.chk X).1]) ∧ UsR w' A n cap [] ∧ Below w.heap.size w w' := by funext en w'; rw [AlP, ha]
  rw [HP]
  clear HP ha HV hB hX hl
  rw [env_v] at HC ⊢
  go_enter Try.func26, Try.ntmps26
  go_wp2_with fail
  refine Calls.mono HC.out ?_
  rintro en w2 ⟨rfl, hb2⟩
  have HB2 := Lib.hid hb2
  clear hb2 HC
  go_wp2_with fail
  refine wp_loop_rounds 1 ?_
  rw [rounds_succ]; go_wp2_with fail
  go_ret2
  exact ⟨none, 0, 0, rfl, ⟨rfl, Nat.le_refl _, Nat.zero_le _, fun h => absurd h (by omega)⟩, HB.out.trans (HB2.out.mono HB.out.size)⟩

/-- The numbers so far. -/
structure AlR (W2 wr : World) (X : List Tm.Nd) (e : Vl.Env) (k : Nat) (A' : Option Addr) (cap' : Nat) : Prop where
  row : wr.ownsRow W2.heap.size 33 1 (.slice A' k cap') k ((Vl.vals X e k).map (Value.int .u64))
  bel : Below W2.heap.size W2 wr

set_option maxHeartbeats 8000000 in
theorem all_good (AX : Option Addr) (len cap : Nat) (X : List Tm.Nd) (E : EnV) (e : Vl.Env) (w : World) (hX : NdSl w AX len cap X) (hE : EnIn w (fun _ => False) E e) (hl : len ≤ 65536) (hc : (Tm.chk X).1 = 0) :
    Calls Try.prog 26 #[.slice AX len cap, E.v] w (AlP X e w) := by
  have hB := Below.box w (.cells #[.slice E.A1 E.n1 E.c1, .int .u64 E.r0, .int .u64 E.r1, .int .u64 E.r2, .int .u64 E.r3, .int .u64 E.r4, .int .u64 E.r5, .int .u64 E.r6, .int .u64 E.r7, .slice E.A2 E.n2 E.c2] 43)
  have HB := Lib.hid hB
  have HC := Lib.hid (values_good AX len cap X E e _ (hX.below hB) hE.box hl hc)
  have ha : Vl.alR X e = Vl.vals X e len := by rw [Vl.alR, if_pos hc, hX.hlen]
  have HP : AlP X e w = fun en w' => ∃ A n cap, en = .returned (.tuple #[.slice A n cap, .int .i64 0]) ∧ UsR w' A n cap (Vl.vals X e len) ∧ Below w.heap.size w w' := by funext en w'; rw [AlP, ha, hc]
  rw [HP]
  have hok : Tm.Ok X len := by have := (Tm.chk_ok_iff hc).2; rw [hX.hlen] at this; exact this
  have HOK := Lib.hid hok
  have HCC := Lib.hid hc
  have HL := Lib.hid (show (len : Int) ≤ 65536 by omega)
  clear HP ha hB hX hl hc hok hE
  rw [env_v] at HC ⊢
  go_enter Try.func26, Try.ntmps26
  go_wp2_with fail
  refine Calls.mono HC.out ?_
  rintro en w2 hr
  rw [VsP, if_pos HCC.out] at hr
  obtain ⟨A, capk, vs, rfl, hvs, hb2⟩ := hr
  have HVS := Lib.hid hvs
  have HB2 := Lib.hid hb2
  clear hvs hb2 HC
  go_wp2_with fail
  go_loopw [8, 19] (fun l t wr => ∃ (k : Nat) (A' : Option Addr) (cap' : Nat), k ≤ len ∧ t = .int .i64 k ∧ l = .slice A' k cap' ∧ AlR w2 wr X e k A' cap') (fun _ t _ => len - (intOf t).toNat)
  case atStart => exact ⟨0, none, 0, Nat.zero_le _, rfl, rfl, ⟨World.ownsRow_nil _ _ _ _, Below.refl _ _⟩⟩
  case round =>
    obtain ⟨k, A', cap', hk, rfl, rfl, hr⟩ := hrel
    by_cases hlt : k < len
    · have hk1 : (k : Int) < len := by omega
      have hk0 : (0 : Int) ≤ k := by omega
      have hl6 := HL.out
      obtain ⟨bk, ok, rfl, hbk, hx⟩ := (HVS.out.below hr.bel).kn.mem (by omega)
      obtain ⟨va, hv, hva⟩ := hx k hlt
      have ht := Vl.told_mean (e := e) (HOK.out k hlt) (Nat.lt_succ_self k)
      have hvk := vals_succ X e k
      rw [← ht] at hvk
      have HVK := Lib.hid hvk
      have HR := Lib.hid hr
      have HLT := Lib.hid hlt
      clear hx ht hvk hr
      obtain ⟨i0, hi0, hz0, hz1, hz2⟩ := info_parts info33
      cases hm : Vl.mean X e k with
      | num n =>
        rw [hm] at hva HVK
        obtain rfl : va = _ := hva
        have HVK := Lib.hid (show Vl.vals X e (k + 1) = Vl.vals X e k ++ [n] from HVK.out)
        have HV5 := Lib.hid (World.ownsRow.alloc HR.out.row (.cells #[.int .u64 n] 33))
        have HS5 := Lib.hid (show w2.heap.size ≤ (wr.alloc (.cells #[.int .u64 n] 33)).heap.size by have := HR.out.bel.size; simp; omega)
        have HB5 := Lib.hid (HR.out.bel.trans ((Below.box wr (.cells #[.int .u64 n] 33)).mono HR.out.bel.size))
        have HCE := Lib.hid (show (wr.alloc (.cells #[.int .u64 n] 33)).cell? ⟨wr.heap.size, 0, none⟩ = some (.int .u64 n) from (Blk.new wr #[.int .u64 n] 33).c 0)
        have HON := Lib.hid (show ∀ u ∈ [Value.int .u64 n], u.oneCell' = true from fun u hu => by simp at hu; subst hu; rfl)
        have HNW := Lib.hid (show ∀ (j : Nat) u, [Value.int .u64 n][j]? = some u → (wr.alloc (.cells #[.int .u64 n] 33)).cell? ((⟨wr.heap.size, 0, none⟩ : Addr).add j) = some u from fun j u hu => by
          have hj : j = 0 := by
            rcases Nat.eq_zero_or_pos j with h | h
            · exact h
            · rw [List.getElem?_eq_none (by simp only [List.length_singleton]; omega)] at hu; cases hu
          subst hj
          simp at hu
          subst hu
          exact HCE.out)
        have HZ1 := Lib.hid (show k + 1 ≤ maxLen by simp only [maxLen]; omega)
        have HZ2 := Lib.hid (show (k + 1) * 8 ≤ 140737488355328 by omega)
        have HZ3 := Lib.hid (show (Vl.vals X e k).map (Value.int .u64) ++ [.int .u64 n] = (Vl.vals X e (k + 1)).map (Value.int .u64) by rw [HVK.out, List.map_append]; rfl)
        clear hm
        go_wp2_with fail
        refine (toldN_any _ _).mono ?_
        rintro en w' ⟨rfl, rfl⟩
        go_wp2_with (at_builtin
                     refine wpList_apS (w := wr.alloc (.cells #[.int .u64 n] 33)) rfl (.tmp 23) (.tmp 26) 49 rfl w2.heap.size 33 i0 _ 1 8 Try.underlying49 hi0 hz0 hz1 hz2 rfl (by omega) (.slice A' k cap') k ((Vl.vals X e k).map (Value.int .u64)) rfl HV5.out ⟨wr.heap.size, 0, none⟩ 1 1 [.int .u64 n] rfl rfl HNW.out HON.out HZ1.out HZ2.out HS5.out (k + 1) ((Vl.vals X e (k + 1)).map (Value.int .u64)) rfl HZ3.out ?_
                     intro A2 cap2 w5 hrow hgrow hmv
                     have HR5 := Lib.hid hrow
                     have HG5 := Lib.hid ((HB5.out.grown hgrow HS5.out (fun j hj => (HV5.out.lt j hj).1)))
                     clear hrow hgrow hmv)
        go_roundw
        case rel => exact ⟨k + 1, A2, cap2, by omega, by go_num, rfl, HR5.out, HG5.out⟩
        case measure => simp [intOf]; omega
      | arr f =>
        rw [hm] at hva HVK
        obtain ⟨p, o, rfl, har⟩ := hva
        obtain ⟨fn, cp, rfl⟩ : ∃ fn cap, o = .func fn #[] cap := by
          obtain ⟨t, g, _, ho, _⟩ := har.ex
          exact ho.func
        clear har
        have HVK := Lib.hid (show Vl.vals X e (k + 1) = Vl.vals X e k ++ [0] from HVK.out)
        have HR := Lib.hid (show AlR w2 (wr.alloc (.cells #[.pointer p, .func fn #[] cp] 107)) X e k A' cap' from ⟨World.ownsRow.alloc HR.out.row _, HR.out.bel.trans ((Below.box wr _).mono HR.out.bel.size)⟩)
        have hsz : (wr.alloc (.cells #[.pointer p, .func fn #[] cp] 107)).heap.size = wr.heap.size + 1 := by simp
        have HV5 := Lib.hid (World.ownsRow.alloc HR.out.row (.cells #[.int .u64 0] 33))
        have HS5 := Lib.hid (show w2.heap.size ≤ ((wr.alloc (.cells #[.pointer p, .func fn #[] cp] 107)).alloc (.cells #[.int .u64 0] 33)).heap.size by have := HR.out.bel.size; simp; omega)
        have HB5 := Lib.hid (HR.out.bel.trans ((Below.box (wr.alloc (.cells #[.pointer p, .func fn #[] cp] 107)) (.cells #[.int .u64 0] 33)).mono HR.out.bel.size))
        have HCE := Lib.hid (show ((wr.alloc (.cells #[.pointer p, .func fn #[] cp] 107)).alloc (.cells #[.int .u64 0] 33)).cell? ⟨wr.heap.size + 1, 0, none⟩ = some (.int .u64 0) by have h := (Blk.new (wr.alloc (.cells #[.pointer p, .func fn #[] cp] 107)) #[.int .u64 0] 33).c 0; rw [hsz] at h; exact h)
        have HON := Lib.hid (show ∀ u ∈ [Value.int .u64 0], u.oneCell' = true from fun u hu => by simp at hu; subst hu; rfl)
        have HNW := Lib.hid (show ∀ (j : Nat) u, [Value.int .u64 0][j]? = some u → ((wr.alloc (.cells #[.pointer p, .func fn #[] cp] 107)).alloc (.cells #[.int .u64 0] 33)).cell? ((⟨wr.heap.size + 1, 0, none⟩ : Addr).add j) = some u from fun j u hu => by
          have hj : j = 0 := by
            rcases Nat.eq_zero_or_pos j with h | h
            · exact h
            · rw [List.getElem?_eq_none (by simp only [List.length_singleton]; omega)] at hu; cases hu
          subst hj
          simp at hu
          subst hu
          exact HCE.out)
        have HZ1 := Lib.hid (show k + 1 ≤ maxLen by simp only [maxLen]; omega)
        have HZ2 := Lib.hid (show (k + 1) * 8 ≤ 140737488355328 by omega)
        have HZ3 := Lib.hid (show (Vl.vals X e k).map (Value.int .u64) ++ [.int .u64 0] = (Vl.vals X e (k + 1)).map (Value.int .u64) by rw [HVK.out, List.map_append]; rfl)
        clear hm hsz
        go_wp2_with fail
        refine (toldA_any _ _ _).mono ?_
        rintro en w' ⟨rfl, rfl⟩
        go_wp2_with (at_builtin
                     refine wpList_apS (w := (wr.alloc (.cells #[.pointer p, .func fn #[] cp] 107)).alloc (.cells #[.int .u64 0] 33)) rfl (.tmp 23) (.tmp 26) 49 rfl w2.heap.size 33 i0 _ 1 8 Try.underlying49 hi0 hz0 hz1 hz2 rfl (by omega) (.slice A' k cap') k ((Vl.vals X e k).map (Value.int .u64)) rfl HV5.out ⟨wr.heap.size + 1, 0, none⟩ 1 1 [.int .u64 0] rfl rfl HNW.out HON.out HZ1.out HZ2.out HS5.out (k + 1) ((Vl.vals X e (k + 1)).map (Value.int .u64)) rfl HZ3.out ?_
                     intro A2 cap2 w5 hrow hgrow hmv
                     have HR5 := Lib.hid hrow
                     have HG5 := Lib.hid ((HB5.out.grown hgrow HS5.out (fun j hj => (HV5.out.lt j hj).1)))
                     clear hrow hgrow hmv)
        go_roundw
        case rel => exact ⟨k + 1, A2, cap2, by omega, by go_num, rfl, HR5.out, HG5.out⟩
        case measure => simp [intOf]; omega
    · have hke : k = len := by omega
      subst hke
      have HR := Lib.hid hr
      clear hr
      go_wp2
      go_ret2
      exact ⟨_, _, _, rfl, UsR.of_own HR.out.row, (HB.out.trans (HB2.out.mono HB.out.size)).trans (HR.out.bel.mono (HB.out.trans (HB2.out.mono HB.out.size)).size)⟩
end Go.Proofs.Ytdbcpnpcnkccaaa
