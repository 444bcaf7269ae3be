/-
  The contract of Check.
-/
import Derived.Test.YtfehmbcgehflmaaTmW3
import Derived.LoopTactic
namespace Go.Proofs.Ytfehmbcgehflmaa
set_option linter.unusedSimpArgs false
set_option linter.unusedVariables false
open Go.RowKit

theorem still_tail {P : Program} {id : Nat} {Q : Exit → Act → World → Prop} {a : Act} {w : World} {l : List Oper} (n : Nat) (hm : P.follows .mixedOrders = true) (hB : Region.lexTailB .any l.toArray n = true)
    (h : wpStill P l.toArray w.drew (fun a' => wpList P l.toArray Q (l.drop n) a' w.drew) (l.take n) a) : (Code.region id l.toArray true).wp P Q a w := wp_region_still_tail n hm hB h
theorem ret_two {k l : IntKind} {a b c d : Int} (h : a = c) (h' : b = d) : Ending.returned (.tuple #[.int k a, .int l b]) = .returned (.tuple #[.int k c, .int l d]) := by rw [h, h']

/-- The first k nodes are right. -/
def Tm.Ok (X : List Tm.Nd) (k : Nat) : Prop := ∀ j, j < k → Tm.fltAt X j = 0
theorem Tm.Ok.succ {X : List Tm.Nd} {k : Nat} (h : Tm.Ok X k) (hk : Tm.fltAt X k = 0) : Tm.Ok X (k + 1) := fun j hj => by
  rcases Nat.lt_succ_iff_lt_or_eq.1 hj with h1 | h1
  · exact h j h1
  · rw [h1]; exact hk
/-- Numbers of 64 bits. -/
def Tm.U64 (n : Int) : Prop := 0 ≤ n ∧ n < 18446744073709551616
theorem NdR.cut {w : World} {A : Option Addr} {len cap k : Nat} {X : List Tm.Nd} (h : NdR w A len cap X) (hk : k ≤ len) (hA : A ≠ none) : NdR w A k cap X :=
  ⟨Nat.le_trans hk h.hle, h.hcap, fun e => absurd e hA, fun h0 => by
    obtain ⟨b, o, e, hlt, hx⟩ := h.mem (by omega)
    exact ⟨b, o, e, hlt, fun i hi => hx i (by omega)⟩⟩

set_option maxRecDepth 20000 in
set_option maxHeartbeats 2000000 in
theorem check_any (A : Option Addr) (len cap : Nat) (X : List Tm.Nd) (w : World) (h : NdR w A len cap X) (hl : X.length = len) (hr : ∀ i, Tm.U64 (X.getD i Tm.z).n) (hm : len ≤ 65536) :
    Calls Try.prog 10 #[.slice A len cap] w fun e w' => e = .returned (.tuple #[.int .i64 (Tm.chk X).1, .int .i64 (Tm.chk X).2]) ∧ Below w.heap.size w w' := by
  have hcl := h.hle
  have hcm := h.hcap
  unfold maxLen at hcm
  by_cases h0 : len = 0
  · subst h0
    have e1 : Tm.chk X = (11, 0) := Tm.chk_nil hl
    rw [e1]
    clear e1 hl hr h
    go_enter Try.func10, Try.ntmps10
    go_wp2
    go_ret2
    exact ⟨rfl, Below.refl _ _⟩
  · obtain ⟨b, o, rfl, hb, hx⟩ := h.mem (by omega)
    have HX := Lib.hid h
    have HL := Lib.hid hl
    have HR := Lib.hid hr
    have HN := Lib.hid hx
    have h0' : ((len : Int) == 0) = false := by simp; omega
    have hmm : min (len : Int) 65536 = len := by omega
    clear h hl hr hx
    go_enter Try.func10, Try.ntmps10
    go_wp2
    clear hmm
    go_loopw [16] (fun t wr => ∃ k : Nat, k ≤ len ∧ t = .int .i64 k ∧ Below w.heap.size w wr ∧ Tm.Ok X k) (fun t _ => len - (intOf t).toNat)
    case atStart => exact ⟨0, Nat.zero_le _, rfl, Below.refl _ _, fun j hj => absurd hj (by omega)⟩
    case round =>
      obtain ⟨k, hk, rfl, hbw, hok⟩ := hrel
      have HBW := Lib.hid hbw
      have HOK := Lib.hid hok
      have hbr : b < wr.heap.size := Nat.lt_of_lt_of_le hb hbw.size
      by_cases hlt : k < len
      · obtain ⟨c0, c1, c2, c3, c4, c5⟩ := (HN.out k hlt).keep (fun o => hbw.cell (p := ⟨b, o, none⟩) hb)
        have hnr := HR.out k
        obtain ⟨nd, hnd⟩ : ∃ nd, X.getD k Tm.z = nd := ⟨_, rfl⟩
        rw [hnd] at c0 c1 c2 c3 c4 c5 hnr
        have HND := Lib.hid hnd
        clear hbw hok hnd
        obtain ⟨op, v, n, x, y, u⟩ := nd
        dsimp only at c0 c1 c2 c3 c4 c5 hnr
        have hB1 : Below w.heap.size w (wr.alloc (.cells #[.int .i64 op, .int .i64 v, .int .u64 n, .int .i64 x, .int .i64 y, .int .i64 u] 38)).drew := (HBW.out.alloc HBW.out.size _).drew
        have HB1 := Lib.hid hB1
        have HF := Lib.hid (fault_any op v n x y u (some ⟨b, o, none⟩) k cap X _ ((HX.out.below hB1).cut hk (by simp)) hnr.1 hnr.2)
        have hkc : k ≤ cap := by omega
        have hkc' : (k : Int) ≤ cap := by omega
        have hk0 : (0 : Int) ≤ k := by omega
        clear hnr hB1
        go_wp2_with fail
        refine still_tail 4 (by kernel_rfl) (by kernel_rfl) ?_
        simp only [List.take_succ_cons, List.take_zero, List.drop_succ_cons, List.drop_zero]
        repeat still_step
        refine wpStill_nil ?_
        go_wp2_with fail
        refine HF.out.mono ?_
        rintro e v1 ⟨rfl, hb1⟩
        have HV := Lib.hid (HB1.out.trans (hb1.mono HB1.out.size))
        clear hb1
        have hfe : Tm.flt ⟨op, v, n, x, y, u⟩ k X = Tm.fltAt X k := by rw [Tm.fltAt, HND.out]
        by_cases hf : Tm.fltAt X k = 0
        · have HF0 := Lib.hid hf
          rw [hfe, hf]
          clear hf hfe
          go_wp2
          go_roundw
          case rel => exact ⟨k + 1, by omega, by go_num, HV.out, HOK.out.succ HF0.out⟩
          case measure => simp [intOf]; omega
        · have HF0 := Lib.hid hf
          have hf' : (Tm.fltAt X k != 0) = true := by simpa using hf
          have HC := Lib.hid (Tm.chk_bad (by have := HL.out; omega) hf HOK.out)
          rw [hfe]
          clear hf hfe
          generalize Tm.fltAt X k = E at hf' HC ⊢
          go_wp2
          go_ret2
          exact ⟨ret_two (by rw [HC.out]) (by rw [HC.out]), HV.out⟩
      · have hke : k = len := by omega
        subst hke
        have HC := Lib.hid (Tm.chk_ok (by have := HL.out; omega) (fun j hj => HOK.out j (by have := HL.out; omega)))
        have hmm' : ¬ (65536 : Int) < k := by omega
        clear hbw hok
        go_wp2
        go_ret2
        exact ⟨ret_two (by rw [HC.out]) (by rw [HC.out]), HBW.out⟩
end Go.Proofs.Ytfehmbcgehflmaa
