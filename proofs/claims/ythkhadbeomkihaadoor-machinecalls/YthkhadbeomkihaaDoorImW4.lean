/-
  Contracts of Fun and appendTwo.
-/
import Derived.Test.YthkhadbeomkihaaDoorImW3
namespace Go.Proofs.YthkhadbeomkihaaDoor
set_option maxRecDepth 100000
open Go.RowKit

/-- The number of the function that has a place. -/
def Im.fn (fs : List Int) (nc : Nat) (pl : Int) : Int := if 0 ≤ pl ∧ pl < nc then Im.own fs nc pl else -1

set_option maxHeartbeats 1600000 in
theorem fun_any (mem stk inp : Int) (Ad : Option Addr) (ld cd : Nat) (Af : Option Addr) (lf cf : Nat) (Ac : Option Addr) (lc cc : Nat) (fs : List Int) (pl : Int) (w : World) (hf : InSl w Af lf cf fs) (hP : Im.Places fs lc) (hn : 1 ≤ lf) (hc2 : lc ≤ maxLen) :
    Calls Tryd.prog 26 #[.agg #[.int .i64 mem, .int .i64 stk, .int .i64 inp, .slice Ad ld cd, .slice Af lf cf, .slice Ac lc cc], .int .i64 pl] w fun e w' => e = .returned (.int .i64 (Im.fn fs lc pl)) ∧ Below w.heap.size w w' := by
  have hfl := Lib.hid hf.hlen
  have hf2 := Nat.le_trans hf.hle hf.hcap
  have HPP := Lib.hid hP
  have HI := Lib.hid hf
  clear hf hP
  have HC2 := Lib.hid hc2
  unfold maxLen at hf2 hc2
  have H0 := Lib.hid (Below.box w (.cells #[.int .i64 mem, .int .i64 stk, .int .i64 inp, .slice Ad ld cd, .slice Af lf cf, .slice Ac lc cc] 26))
  have b0 : (w.alloc (.cells #[.int .i64 mem, .int .i64 stk, .int .i64 inp, .slice Ad ld cd, .slice Af lf cf, .slice Ac lc cc] 26)).cell? ⟨w.heap.size, 0, none⟩ = some (.int .i64 mem) := by simp
  have b1 : (w.alloc (.cells #[.int .i64 mem, .int .i64 stk, .int .i64 inp, .slice Ad ld cd, .slice Af lf cf, .slice Ac lc cc] 26)).cell? ⟨w.heap.size, 1, none⟩ = some (.int .i64 stk) := by simp
  have b2 : (w.alloc (.cells #[.int .i64 mem, .int .i64 stk, .int .i64 inp, .slice Ad ld cd, .slice Af lf cf, .slice Ac lc cc] 26)).cell? ⟨w.heap.size, 2, none⟩ = some (.int .i64 inp) := by simp
  have b3 : (w.alloc (.cells #[.int .i64 mem, .int .i64 stk, .int .i64 inp, .slice Ad ld cd, .slice Af lf cf, .slice Ac lc cc] 26)).cell? ⟨w.heap.size, 3, none⟩ = some (.slice Ad ld cd) := by simp
  have b4 : (w.alloc (.cells #[.int .i64 mem, .int .i64 stk, .int .i64 inp, .slice Ad ld cd, .slice Af lf cf, .slice Ac lc cc] 26)).cell? ⟨w.heap.size, 4, none⟩ = some (.slice Af lf cf) := by simp
  have b5 : (w.alloc (.cells #[.int .i64 mem, .int .i64 stk, .int .i64 inp, .slice Ad ld cd, .slice Af lf cf, .slice Ac lc cc] 26)).cell? ⟨w.heap.size, 5, none⟩ = some (.slice Ac lc cc) := by simp
  have G0 := Lib.hid b0
  have G1 := Lib.hid b1
  have G2 := Lib.hid b2
  have G3 := Lib.hid b3
  have G4 := Lib.hid b4
  have G5 := Lib.hid b5
  clear b0 b1 b2 b3 b4 b5
  by_cases hin : 0 ≤ pl ∧ pl < lc
  · obtain ⟨p0, p1⟩ := hin
    have hfn : Im.fn fs lc pl = Im.own fs lc pl := by unfold Im.fn; rw [if_pos ⟨p0, p1⟩]
    have HFN := Lib.hid hfn
    clear hfn
    go_enter Tryd.func26, Tryd.ntmps26
    go_wp2
    go_loopw [20] (fun i wr => ∃ k : Nat, k ≤ lf ∧ i = .int .i64 k ∧ Below (w.heap.size + 1) (w.alloc (.cells #[.int .i64 mem, .int .i64 stk, .int .i64 inp, .slice Ad ld cd, .slice Af lf cf, .slice Ac lc cc] 26)) wr ∧ ∀ j : Nat, j < k → ¬ (fs.getD j 0 ≤ pl ∧ pl < Im.till fs lc j)) (fun i _ => lf - (intOf i).toNat)
    case atStart => exact ⟨0, by omega, rfl, Below.refl _ _, fun j hj => absurd hj (by omega)⟩
    case round =>
      obtain ⟨k, hk, rfl, hbr, hall⟩ := hrel
      have c0 := cells_below hbr G0.out (by simp)
      have c1 := cells_below hbr G1.out (by simp)
      have c2 := cells_below hbr G2.out (by simp)
      have c3 := cells_below hbr G3.out (by simp)
      have c4 := cells_below hbr G4.out (by simp)
      have c5 := cells_below hbr G5.out (by simp)
      have HR := Lib.hid hbr
      have HA := Lib.hid hall
      clear hbr hall
      by_cases hlt : k < lf
      · have hI : InSl wr Af lf cf fs := (HI.out.below H0.out).below (HR.out.mono (by simp))
        have HRC := Lib.hid (reach_any mem stk inp Ad ld cd Af lf cf Ac lc cc fs k wr hI hlt HC2.out)
        clear hI
        have hz : ∃ z0 z1, fs.getD k 0 = z0 ∧ Im.till fs lc k = z1 := ⟨_, _, rfl, rfl⟩
        obtain ⟨z0, z1, e0, e1⟩ := hz
        rw [e0, e1] at HRC
        have E0 := Lib.hid e0
        have E1 := Lib.hid e1
        clear e0 e1
        go_wp2_with fail
        refine HRC.out.mono ?_
        rintro e v ⟨rfl, hbv⟩
        have HV := Lib.hid (HR.out.trans (hbv.mono (by have := HR.out.size; simp at this; omega)))
        clear hbv HRC
        go_wp2
        · go_ret
          have h1 : z0 ≤ pl := by assumption
          have h2 : pl < z1 := by assumption
          refine ⟨cret_int ?_, H0.out.trans (HV.out.mono (by omega))⟩
          rw [HFN.out, Im.own_eq (n := k) HPP.out (by have := hfl.out; omega) (by rw [E0.out]; exact h1) (by rw [E1.out]; exact h2)]
        all_goals
          go_roundw
          case rel =>
            refine ⟨k + 1, by omega, by go_num, HV.out, fun j hj => ?_⟩
            rcases Nat.lt_succ_iff_lt_or_eq.1 hj with h | h
            · exact HA.out j h
            · rw [h, E0.out, E1.out]
              clear HA HR HV c0 c1 c2 c3 c4 c5
              omega
          case measure => simp [intOf]; omega
      · have hkl : k = lf := by omega
        obtain ⟨n, g1, g2, g3⟩ := Im.own_ex HPP.out (by have := hfl.out; omega) p0 p1
        exact absurd ⟨g2, g3⟩ (HA.out n (by have := hfl.out; omega))
  · have hfn : Im.fn fs lc pl = -1 := by unfold Im.fn; rw [if_neg hin]
    rw [hfn]
    clear hfn
    by_cases p0 : pl < 0
    · go_enter Tryd.func26, Tryd.ntmps26
      go_wp2
      go_ret
      exact ⟨rfl, H0.out⟩
    · have p1 : (lc : Int) ≤ pl := by omega
      clear hin
      go_enter Tryd.func26, Tryd.ntmps26
      go_wp2
      go_ret
      exact ⟨rfl, H0.out⟩

theorem u8_two (x : Int) (h0 : 0 ≤ x) (h1 : x < 65536) : IntKind.u8.wrap (x / 256) = x / 256 ∧ IntKind.u8.wrap x = x % 256 := by
  rw [IntKind.wrap_u8, IntKind.wrap_u8]; omega

/-- A block just made is a slice. -/
theorem Sl.new (w : World) (xs : List Value) (t : TypeId) : Sl (w.alloc (.cells xs.toArray t)) (some ⟨w.heap.size, 0, none⟩) xs.length xs :=
  ⟨rfl, fun _ => ⟨w.heap.size, 0, rfl, by simp, fun j u hu => by
    rw [add_at, Nat.zero_add]
    have := World.cell?_alloc_new w xs.toArray t j
    rw [this]
    simpa using hu⟩⟩

set_option maxHeartbeats 400000 in
theorem apTwo_any (base : Nat) (A : Option Addr) (n cap : Nat) (xs : List Int) (x : Int) (w : World) (hown : w.ownsRow base 5 1 (.slice A n cap) n (xs.map (Value.int .u8))) (hb : base ≤ w.heap.size) (hn : n ≤ 100000) (h0 : 0 ≤ x) (h1 : x < 65536) :
    Calls Tryd.prog 64 #[.slice A n cap, .int .i64 x] w fun e w' => ∃ A' cap', e = .returned (.slice A' (n + 2) cap') ∧ w'.ownsRow base 5 1 (.slice A' (n + 2) cap') (n + 2) ((xs ++ Im.two x).map (Value.int .u8)) ∧ Below base w w' := by
  obtain ⟨i0, hi0, hz0, hz1, hz2⟩ := info_parts u8_info
  obtain ⟨e0, e1⟩ := u8_two x h0 h1
  have HO := Lib.hid hown
  clear hown
  go_enter Tryd.func64, Tryd.ntmps64
  go_wp2_with (at_builtin
               refine wpList_ap (w := w.alloc (.cells #[.int .u8 (x / 256), .int .u8 (x % 256)] 5)) rfl (.tmp 5) (.tmp 11) _ rfl base 5 i0 _ 1 Tryd.underlying22 hi0 hz0 hz1 hz2 rfl (.slice A n cap) n (xs.map (Value.int .u8)) rfl
                 (HO.out.alloc _) (some ⟨w.heap.size, 0, none⟩) 2 2 [.int .u8 (x / 256), .int .u8 (x % 256)] rfl (Sl.new w [.int .u8 (x / 256), .int .u8 (x % 256)] 5) (fun e => by cases e) (one_cell [x / 256, x % 256]) (by simp only [maxLen]; omega) (by omega) (by simp; omega) (n + 2) ((xs ++ Im.two x).map (Value.int .u8)) rfl (by simp [Im.two]) ?_
               intro A' cap' v2 hc1 hc2 hown hsl hb2)
  go_ret
  exact ⟨A', cap', rfl, hown, ((Below.refl _ _).alloc hb _).trans hb2⟩
end Go.Proofs.YthkhadbeomkihaaDoor
