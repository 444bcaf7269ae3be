/-
  The contract of funs.
-/
import Derived.Test.YtjadiijjahjjoaaDoorImR4
import Derived.Deep.OwnRows
namespace Go.Proofs.YtjadiijjahjjoaaDoor
open Go.RowKit

theorem RB.keep {w w' : World} {g : Nat} {A : Option Addr} {len cap : Nat} {i : Int} (h : RB w g A len cap i) (hb : Below w.heap.size w w') : RB w' g A len cap i := (hb.block g h.lt).trans h
theorem ByR.keep {g : Nat} {w w' : World} {A : Option Addr} {len cap : Nat} {xs : List Int} (h : ByR g w A len cap xs) (hb : Below w.heap.size w w') : ByR g w' A len cap xs := h.rd (Rd.of_below hb)
theorem i64_info : (Tryd.prog.info? 3).map (fun i => (i.zero, i.size, i.bytes)) = some (some (.int .i64 0), 1, 8) := by kernel_rfl
theorem rowIs_rd {g : Nat} {w w' : World} {b : Nat} {t : TypeId} {n : Nat} {f : Nat → Value} (h : w.rowIs b t n f) (hr : Rd g w w') (hn : b ≠ g) : w'.rowIs b t n f := h.of_block (hr.block b h.lt hn)

/-- What funs does. -/
def FunsP (g : Nat) (A : Option Addr) (len cap i f : Nat) (xs : List Int) (w : World) (e : Ending) (w' : World) : Prop :=
  Rd g w w' ∧ ((∃ a b, e = flt a b ∧ a ≠ 0 ∧ ∀ c, Im.nm xs i 1 1 16 (Im.dF xs (i + 1) f c) = (a, b)) ∨
    ((∀ c, Im.nm xs i 1 1 16 (Im.dF xs (i + 1) f c) = c) ∧ ∃ G, e = .returned (.slice (some ⟨G, 0, none⟩) f f) ∧ w.heap.size ≤ G ∧ w'.rowIs G 3 f (fun j => .int .i64 (Im.fa xs (i + 1) j)) ∧
      RB w' g A len cap ((i + 1 + 2 * f : Nat) : Int) ∧ 1 ≤ f ∧ f ≤ 16 ∧ i + 1 + 2 * f ≤ len ∧ ∀ q, q < f → Im.fBad xs (i + 1) q = false))

theorem fBad_short {xs : List Int} {a q : Nat} (h : xs.length < a + 2 * q + 2) : Im.fBad xs a q = true := by
  unfold Im.fBad
  rw [decide_eq_true h]
  rfl
theorem fBad_zero {xs : List Int} {a : Nat} (h : a + 2 ≤ xs.length) : Im.fBad xs a 0 = decide (Im.fa xs a 0 ≠ 0) := by
  unfold Im.fBad
  rw [decide_eq_false (by omega), if_pos rfl, Bool.false_or]
theorem fBad_succ {xs : List Int} {a q : Nat} (h : a + 2 * (q + 1) + 2 ≤ xs.length) : Im.fBad xs a (q + 1) = decide (Im.fa xs a (q + 1) ≤ Im.fa xs a q) := by
  unfold Im.fBad
  rw [decide_eq_false (by omega), if_neg (by omega), Bool.false_or]
  rfl

set_option maxHeartbeats 1600000 in
theorem funs_any (g : Nat) (A : Option Addr) (len cap i f : Nat) (xs : List Int) (w : World) (hb : RB w g A len cap i) (hx : ByR g w A len cap xs) (hi : i ≤ len) (hl : len ≤ 1000000000000) (hf : (Im.num xs i 1).toNat = f) :
    Calls Tryd.prog 48 #[.pointer (some ⟨g, 0, none⟩)] w (FunsP g A len cap i f xs w) := by
  have hln := hx.sl.hlen
  have hB := Lib.hid hx.sl.isB
  have HN := Lib.hid (number_any g A len cap i 1 1 16 xs w hb hx hi (.inl rfl))
  have HB := Lib.hid hb
  have HX := Lib.hid hx
  have HL := Lib.hid hln
  have HF := Lib.hid hf
  have hg := hb.lt
  clear hb hx hf hln
  go_enter Tryd.func48, Tryd.ntmps48
  go_wp2_with fail
  refine HN.out.mono ?_
  rintro e v ⟨hr, ⟨h1, rfl⟩ | ⟨h1, h2, rfl⟩ | ⟨h1, h2, h3, rfl, hb'⟩⟩
  · exact ⟨rfl, hr, .inl ⟨1, len, rfl, by decide, fun c => by rw [Im.nm_short (by rw [HL.out]; exact h1), HL.out]⟩⟩
  · exact ⟨rfl, hr, .inl ⟨3, i, rfl, by decide, fun c => by rw [Im.nm_bad (by rw [HL.out]; exact h1) h2]⟩⟩
  · have hn : Im.num xs i 1 = (f : Int) := by have := HF.out; omega
    have HNM := Lib.hid (fun c => Im.nm_ok (xs := xs) (i := i) (k := 1) (lo := 1) (hi := 16) (by rw [HL.out]; exact h1) h2 h3 c)
    rw [hn] at h2 h3 ⊢
    have f1 : 1 ≤ f := by omega
    have f2 : f ≤ 16 := by omega
    have hmk : ∀ W : World, (Instr.makeSlice 23 (.int .i64 (f : Int)) (.int .i64 (f : Int))).run Tryd.prog W = .ok (.slice (some ⟨W.heap.size, 0, none⟩) f f) (W.alloc (.cells (madeCells #[.int .i64 0] f) 3)) :=
      fun W => run_make_row' 23 3 (.int .i64 0) 8 Tryd.underlying23 i64_info rfl .i64 .i64 f (by omega) (by omega) W
    have HB1 := Lib.hid (hb'.keep (Below.box v (.cells (madeCells #[.int .i64 0] f) 3)))
    have HX1 := Lib.hid ((HX.out.rd hr).keep (Below.box v (.cells (madeCells #[.int .i64 0] f) 3)))
    have HR1 := Lib.hid (hr.trans (Rd.of_below (Below.box v (.cells (madeCells #[.int .i64 0] f) 3))))
    have HRW := Lib.hid (World.rowIs_made v (.int .i64 0) f 3)
    have hgG : v.heap.size ≠ g := by have := hr.size; omega
    have hG : w.heap.size ≤ v.heap.size := hr.size
    clear hr hb' hn
    go_wp2_with fail
    refine (number_any g A len cap (i + 1) 2 0 0 xs _ HB1.out HX1.out h1 (.inr rfl)).mono ?_
    rintro e v2 ⟨hr2, ⟨k1, rfl⟩ | ⟨k1, k2, rfl⟩ | ⟨k1, k2, k3, rfl, hb2⟩⟩
    · refine ⟨rfl, HR1.out.trans hr2, .inl ⟨1, len, rfl, by decide, fun c => ?_⟩⟩
      rw [HNM.out, Im.dF_at (q := 0) (by omega) (fBad_short (by rw [HL.out]; omega)) (fun j hj => absurd hj (by omega)), if_pos (by rw [HL.out]; omega), HL.out]
    · refine ⟨rfl, HR1.out.trans hr2, .inl ⟨3, ((i + 1 : Nat) : Int), rfl, by decide, fun c => ?_⟩⟩
      have hb0 : Im.fBad xs (i + 1) 0 = true := by
        rw [fBad_zero (by rw [HL.out]; omega)]
        refine decide_eq_true fun h => k2 ?_
        have : Im.num xs (i + 1) 2 = 0 := h
        omega
      rw [HNM.out, Im.dF_at (q := 0) (by omega) hb0 (fun j hj => absurd hj (by omega)), if_neg (by rw [HL.out]; omega)]
    · have hz : Im.num xs (i + 1) 2 = 0 := by omega
      have hb0 : Im.fBad xs (i + 1) 0 = false := by
        rw [fBad_zero (by rw [HL.out]; omega)]
        exact decide_eq_false fun h => h hz
      have hrow := rowIs_rd HRW.out hr2 hgG
      have hcell := hrow.cell (i := 0) (by omega)
      have hfr := hrow.frozen 0
      have HBZ := Lib.hid hb0
      have HB2 := Lib.hid hb2
      have HR2 := Lib.hid (HR1.out.trans hr2)
      have HW2 := Lib.hid hrow
      have HX2 := Lib.hid (HX1.out.rd hr2)
      rw [hz]
      have HZ := Lib.hid hz
      have f0 : 0 < f := by omega
      clear hb0 hb2 hrow hr2 k2 k3 hz
      generalize v.heap.size = G at *
      clear HB1 HX1 HR1 HRW hmk
      have hrw0 : (v2.setCell ⟨G, 0, none⟩ (.int .i64 0)).rowIs G 3 f (fun j => if j < 0 + 1 then .int .i64 (Im.fa xs (i + 1) j) else .int .i64 0) := by
        refine (HW2.out.set 0 (.int .i64 0)).congr fun j _ => ?_
        by_cases h : j = 0
        · subst h
          rw [if_pos rfl, if_pos (by omega), show Im.fa xs (i + 1) 0 = 0 from HZ.out]
        · rw [if_neg h, if_neg (by omega)]
      have HRW0 := Lib.hid hrw0
      have HRB0 := Lib.hid (HB2.out.other (p := ⟨G, 0, none⟩) (by simpa using hgG.symm) (.int .i64 0))
      have HRD0 := Lib.hid (HR2.out.setNew (p := ⟨G, 0, none⟩) hG (.int .i64 0))
      clear hrw0
      go_wp2_with fail
      go_loopw [4] (fun n wr => ∃ k : Nat, k + 1 ≤ f ∧ n = .int .i64 ((k : Int) + 1) ∧ Rd g w wr ∧ wr.rowIs G 3 f (fun j => if j < k + 1 then .int .i64 (Im.fa xs (i + 1) j) else .int .i64 0) ∧ RB wr g A len cap ((i + 1 + 2 * (k + 1) : Nat) : Int) ∧ (∀ q, q < k + 1 → Im.fBad xs (i + 1) q = false) ∧ i + 1 + 2 * (k + 1) ≤ len) (fun n _ => f - (intOf n).toNat)
      case atStart =>
        refine ⟨0, by omega, rfl, HRD0.out, HRW0.out, HRB0.out, fun q hq => ?_, by omega⟩
        obtain rfl : q = 0 := by omega
        exact HBZ.out
      case round =>
        obtain ⟨k, hk, rfl, hrd, hrow, hrb, hall, hlen⟩ := hrel
        have HRD := Lib.hid hrd
        have HRW := Lib.hid hrow
        have HRB := Lib.hid hrb
        have HA := Lib.hid hall
        clear hrow hrb hall hcell hfr
        by_cases hlt : k + 1 < f
        · have hi1 : (k : Int) + 1 < f := by omega
          have d0 := HRW.out.cell (i := k) (by omega)
          rw [if_pos (by omega)] at d0
          have d1 := HRW.out.cell (i := k + 1) hlt
          rw [if_neg (by omega)] at d1
          have hz : ∃ z, Im.fa xs (i + 1) k = z := ⟨_, rfl⟩
          obtain ⟨z, hz⟩ := hz
          have hzb := Im.num_bd hB.out (i + 1 + 2 * k) 2
          rw [show Im.num xs (i + 1 + 2 * k) 2 = z from hz] at hzb
          rw [hz] at d0
          have HZK := Lib.hid hz
          have HNN := Lib.hid (number_any g A len cap (i + 1 + 2 * (k + 1)) 2 (z + 1) 65535 xs wr HRB.out (HX.out.rd hrd) hlen (.inr rfl))
          clear hrd hz
          go_wp2_with fail
          refine HNN.out.mono ?_
          rintro e v3 ⟨hr3, ⟨k1, rfl⟩ | ⟨k1, k2, rfl⟩ | ⟨k1, k2, k3, rfl, hb3⟩⟩
          · refine ⟨rfl, HRD.out.trans hr3, .inl ⟨1, len, rfl, by decide, fun c => ?_⟩⟩
            rw [HNM.out, Im.dF_at (q := k + 1) hlt (fBad_short (by rw [HL.out]; omega)) HA.out, if_pos (by rw [HL.out]; omega), HL.out]
          · refine ⟨rfl, HRD.out.trans hr3, .inl ⟨3, ((i + 1 + 2 * (k + 1) : Nat) : Int), rfl, by decide, fun c => ?_⟩⟩
            have hbd := Im.num_bd hB.out (i + 1 + 2 * (k + 1)) 2
            have hb0 : Im.fBad xs (i + 1) (k + 1) = true := by
              rw [fBad_succ (by rw [HL.out]; omega), HZK.out]
              refine decide_eq_true ?_
              show Im.num xs (i + 1 + 2 * (k + 1)) 2 ≤ z
              omega
            rw [HNM.out, Im.dF_at (q := k + 1) hlt hb0 HA.out, if_neg (by rw [HL.out]; omega)]
          · have hb0 : Im.fBad xs (i + 1) (k + 1) = false := by
              rw [fBad_succ (by rw [HL.out]; omega), HZK.out]
              refine decide_eq_false ?_
              show ¬ Im.num xs (i + 1 + 2 * (k + 1)) 2 ≤ z
              omega
            have hrow := rowIs_rd HRW.out hr3 hgG
            have y1 := hrow.cell (i := k + 1) hlt
            rw [if_neg (by omega)] at y1
            have yf := hrow.frozen (k + 1)
            have hy : ∃ y, Im.num xs (i + 1 + 2 * (k + 1)) 2 = y := ⟨_, rfl⟩
            obtain ⟨y, hy⟩ := hy
            have hrw1 : (v3.setCell ⟨G, k + 1, none⟩ (.int .i64 y)).rowIs G 3 f (fun j => if j < k + 1 + 1 then .int .i64 (Im.fa xs (i + 1) j) else .int .i64 0) := by
              refine (hrow.set (k + 1) (.int .i64 y)).congr fun j _ => ?_
              by_cases h : j = k + 1
              · subst h
                rw [if_pos rfl, if_pos (by omega), show Im.fa xs (i + 1) (k + 1) = y from hy]
              · rw [if_neg h]
                by_cases h2 : j < k + 1
                · rw [if_pos h2, if_pos (by omega)]
                · rw [if_neg h2, if_neg (by omega)]
            have HW1 := Lib.hid hrw1
            have HB3 := Lib.hid (hb3.other (p := ⟨G, k + 1, none⟩) (by simpa using hgG.symm) (.int .i64 y))
            have HD3 := Lib.hid ((HRD.out.trans hr3).setNew (p := ⟨G, k + 1, none⟩) hG (.int .i64 y))
            have HBB := Lib.hid hb0
            rw [hy]
            clear hb0 hrow hrw1 hb3 hr3 k2 k3 hy d0 d1
            go_wp2
            go_roundw
            case rel =>
              refine ⟨k + 1, by omega, by go_num, HD3.out, HW1.out, HB3.out, fun q hq => ?_, by omega⟩
              rcases Nat.lt_succ_iff_lt_or_eq.1 hq with h | h
              · exact HA.out q h
              · rw [h]; exact HBB.out
            case measure => simp [intOf]; omega
        · have hkf : k + 1 = f := by omega
          have HK := Lib.hid hkf
          clear hkf hrd
          go_wp2
          go_ret
          have hk' := HK.out
          refine ⟨HRD.out, .inr ⟨fun c => ?_, G, rfl, hG, ?_, ?_, f1, f2, by omega, fun q hq => HA.out q (by omega)⟩⟩
          · rw [HNM.out, Im.dF_ok (fun j hj => HA.out j (by omega))]
          · refine HRW.out.congr fun j hj => ?_
            rw [if_pos (by omega)]
          · have h := HRB.out
            rw [hk'] at h
            exact h
end Go.Proofs.YtjadiijjahjjoaaDoor
