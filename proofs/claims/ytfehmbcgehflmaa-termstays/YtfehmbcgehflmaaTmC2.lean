/-
  The contract of the reference's Check.
-/
import Derived.Test.YtfehmbcgehflmaaTmW5
import Derived.Test.YtfehmbcgehflmaaTmC1
namespace Go.Proofs.Ytfehmbcgehflmaa
set_option linter.unusedSimpArgs false
set_option linter.unusedVariables false
open Go.RowKit

theorem Tm.flt_zero {nd : Tm.Nd} {len : Nat} {X : List Tm.Nd} (h : Tm.flt nd len X = 0) : 0 ≤ nd.op ∧ nd.op ≤ 24 ∧ Tm.kok nd len = true ∧ Tm.wok nd.op nd.w (Tm.w0 nd X) (Tm.w1 nd X) (Tm.w2 nd X) = true ∧ Tm.nok nd.op nd.w nd.n = true := by
  unfold Tm.flt at h
  split at h
  · cases h
  · split at h
    · cases h
    · split at h
      · cases h
      · split at h
        · cases h
        · rename_i a b c d
          exact ⟨by omega, by omega, by simpa using b, by simpa using c, by simpa using d⟩
theorem Tm.kok_in {nd : Tm.Nd} {len : Nat} (h : Tm.kok nd len = true) : (1 ≤ Tm.kidn nd.op → 0 ≤ nd.a ∧ nd.a < len) ∧ (2 ≤ Tm.kidn nd.op → 0 ≤ nd.b ∧ nd.b < len) ∧ (3 ≤ Tm.kidn nd.op → 0 ≤ nd.c ∧ nd.c < len) := by
  unfold Tm.kok at h
  simp only [Bool.and_eq_true] at h
  exact ⟨fun k => Tm.inn_iff.1 (by simpa [k] using h.1), fun k => Tm.inn_iff.1 (by simpa [k] using h.2.1), fun k => Tm.inn_iff.1 (by simpa [k] using h.2.2)⟩
theorem Tm.wok_nn {op w x y v : Int} (hx : 0 ≤ x) (hy : 0 ≤ y) (h : Tm.wok op w x y v = true) : 0 ≤ w := by
  have := (Tm.wok_ref hx hy).1 h
  omega
theorem Tm.Ok.nn {X : List Tm.Nd} {k : Nat} (h : Tm.Ok X k) : ∀ j, j < k → 0 ≤ (X.getD j Tm.z).w := by
  intro j
  induction j using Nat.strongRecOn with
  | ind j ih =>
    intro hj
    obtain ⟨_, _, hk, hw, _⟩ := Tm.flt_zero (h j hj)
    obtain ⟨i0, i1, _⟩ := Tm.kok_in hk
    refine Tm.wok_nn ?_ ?_ hw
    · unfold Tm.w0
      split
      · rename_i c
        obtain ⟨p, q⟩ := i0 c
        exact ih _ (by omega) (by omega)
      · exact Int.le_refl 0
    · unfold Tm.w1
      split
      · rename_i c
        obtain ⟨p, q⟩ := i1 c
        exact ih _ (by omega) (by omega)
      · exact Int.le_refl 0

set_option maxRecDepth 20000 in
set_option maxHeartbeats 2000000 in
theorem rcheck_any (A : Option Addr) (len cap : Nat) (X : List Tm.Nd) (w : World) (h : NdR w A len cap X) (hl : X.length = len) (hr : ∀ i, Tm.U64 (X.getD i Tm.z).n) (hm : len ≤ 65536) :
    Calls Try.prog 11 #[.slice A len cap] w fun e w' => e = .returned (.tuple #[.int .i64 (Tm.chk X).1, .int .i64 (Tm.chk X).2]) ∧ Below w.heap.size w w' := by
  have hcl := h.hle
  have hcm := h.hcap
  unfold maxLen at hcm
  by_cases h0 : len = 0
  · subst h0
    have e1 : Tm.chk X = (11, 0) := Tm.chk_nil hl
    rw [e1]
    clear e1 hl hr h
    go_enter Try.func11, Try.ntmps11
    go_wp2
    go_ret2
    exact ⟨rfl, Below.refl _ _⟩
  · obtain ⟨b, o, rfl, hb, hx⟩ := h.mem (by omega)
    have HX := Lib.hid h
    have HL := Lib.hid hl
    have HR := Lib.hid hr
    have HN := Lib.hid hx
    have h0' : ((len : Int) == 0) = false := by simp; omega
    clear h hl hr hx
    go_enter Try.func11, Try.ntmps11
    go_wp2
    go_loopw [4] (fun t wr => ∃ k : Nat, k ≤ len ∧ t = .int .i64 k ∧ Below w.heap.size w wr ∧ Tm.Ok X k) (fun t _ => len - (intOf t).toNat)
    case atStart => exact ⟨0, Nat.zero_le _, rfl, Below.refl _ _, fun j hj => absurd hj (by omega)⟩
    case round =>
      obtain ⟨k, hk, rfl, hbw, hok⟩ := hrel
      have HBW := Lib.hid hbw
      have HOK := Lib.hid hok
      have hbr : b < wr.heap.size := Nat.lt_of_lt_of_le hb hbw.size
      by_cases hlt : k < len
      · obtain ⟨c0, c1, c2, c3, c4, c5⟩ := (HN.out k hlt).keep (fun o => hbw.cell (p := ⟨b, o, none⟩) hb)
        have hnr := HR.out k
        obtain ⟨nd, hnd⟩ : ∃ nd, X.getD k Tm.z = nd := ⟨_, rfl⟩
        rw [hnd] at c0 c1 c2 c3 c4 c5 hnr
        have HND := Lib.hid hnd
        clear hbw hok hnd
        obtain ⟨op, v, n, x, y, u⟩ := nd
        dsimp only at c0 c1 c2 c3 c4 c5 hnr
        have hB1 : Below w.heap.size w wr.drew := HBW.out.drew
        have HB1 := Lib.hid hB1
        have HF := Lib.hid (right_any op v n x y u (some ⟨b, o, none⟩) k cap X _ ((HX.out.below hB1).cut hk (by simp)) hnr.1 hnr.2 HOK.out.nn)
        have hkc : k ≤ cap := by omega
        have hkc' : (k : Int) ≤ cap := by omega
        have hkl' : (k : Int) < len := by omega
        have hk0 : (0 : Int) ≤ k := by omega
        have hk6 : ((k : Int) == 65536) = false := by simp; omega
        clear hnr hB1
        go_wp2_with fail
        refine still_tail 7 (by kernel_rfl) (by kernel_rfl) ?_
        simp only [List.take_succ_cons, List.take_zero, List.drop_succ_cons, List.drop_zero]
        repeat still_step
        refine wpStill_nil ?_
        go_wp2_with fail
        refine HF.out.mono ?_
        rintro e v1 ⟨rfl, hb1⟩
        have HV := Lib.hid (HB1.out.trans (hb1.mono HB1.out.size))
        clear hb1
        have hfe : Tm.flt ⟨op, v, n, x, y, u⟩ k X = Tm.fltAt X k := by rw [Tm.fltAt, HND.out]
        by_cases hf : Tm.fltAt X k = 0
        · have HF0 := Lib.hid hf
          rw [hfe, hf]
          clear hf hfe
          go_wp2
          go_roundw
          case rel => exact ⟨k + 1, by omega, by go_num, HV.out, HOK.out.succ HF0.out⟩
          case measure => simp [intOf]; omega
        · have HF0 := Lib.hid hf
          have hf' : (Tm.fltAt X k != 0) = true := by simpa using hf
          have HC := Lib.hid (Tm.chk_bad (by have := HL.out; omega) hf HOK.out)
          rw [hfe]
          clear hf hfe
          generalize Tm.fltAt X k = E at hf' HC ⊢
          go_wp2
          go_ret2
          exact ⟨ret_two (by rw [HC.out]) (by rw [HC.out]), HV.out⟩
      · have hke : k = len := by omega
        subst hke
        have HC := Lib.hid (Tm.chk_ok (by have := HL.out; omega) (fun j hj => HOK.out j (by have := HL.out; omega)))
        clear hbw hok
        go_wp2
        go_ret2
        exact ⟨ret_two (by rw [HC.out]) (by rw [HC.out]), HBW.out⟩
end Go.Proofs.Ytfehmbcgehflmaa
