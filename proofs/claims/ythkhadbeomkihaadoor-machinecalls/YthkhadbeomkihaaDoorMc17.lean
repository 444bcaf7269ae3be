/-
  Run as one contract; First, slices.Index, Reach; Few, great, the laws' own example.
-/
import Derived.Test.YthkhadbeomkihaaDoorMc16
namespace Go.Proofs.YthkhadbeomkihaaDoor
set_option maxRecDepth 100000
open Go.RowKit

theorem InSl.of_own {w : World} {base : Nat} {A : Option Addr} {n cap : Nat} {xs : List Int} (h : w.ownsRow base 3 1 (.slice A n cap) n (xs.map (Value.int .i64))) : InSl w A n cap xs := by
  obtain ⟨A', cap', he, h1, h2, hs, _⟩ := Sl.of_own h
  injection he with e1 e2 e3
  subst e1 e3
  have hl : xs.length = n := by have := hs.1; rwa [List.length_map] at this
  refine ⟨hl, h1, h2, fun hA => ?_, fun h0 => ?_⟩
  · rcases Nat.eq_zero_or_pos n with h0 | h0
    · exact h0
    · obtain ⟨b, o, e, _⟩ := hs.2 h0
      rw [hA] at e; cases e
  · obtain ⟨b, o, e, hlt, hc⟩ := hs.2 h0
    refine ⟨b, o, e, hlt, fun i hi => ?_⟩
    have := hc i (.int .i64 (xs.getD i 0)) (by rw [List.getElem?_map, List.getD_eq_getElem?_getD, List.getElem?_eq_getElem (by omega)]; rfl)
    rwa [add_at] at this
theorem ret_int' {a b : Int} (h : a = b) : Ending.returned (.int .i64 a) = .returned (.int .i64 b) := by rw [h]
/-- Has an image no more parts than are gone through? -/
def fewB (ld lf lc : Nat) : Bool := decide ((ld : Int) ≤ 100) && decide ((lf : Int) ≤ 40) && decide ((lc : Int) ≤ 300)
set_option maxHeartbeats 400000 in
theorem few_any (mem stk inp : Int) (Ad : Option Addr) (ld cd : Nat) (Af : Option Addr) (lf cf : Nat) (Ac : Option Addr) (lc cc : Nat) (w : World) (h1 : ld ≤ maxLen) (h2 : lf ≤ maxLen) (h3 : lc ≤ maxLen) :
    Calls Tryd.prog 27 #[.agg #[.int .i64 mem, .int .i64 stk, .int .i64 inp, .slice Ad ld cd, .slice Af lf cf, .slice Ac lc cc]] w fun e w' => e = .returned (.bool (fewB ld lf lc)) ∧ Below w.heap.size w w' := by
  unfold maxLen at h1 h2 h3
  go_enter Tryd.func27, Tryd.ntmps27
  go_wp2
  all_goals
    go_ret
    refine ⟨ret_bool ?_, Below.box _ _⟩
    simp_all [fewB]
    try omega

namespace Mc
theorem go_ok {p : Im.Pic} {xs : List Int} (hR : R p) (hW : Wc p) (hx : Cd.isB xs) (hl : xs.length < 1000) : ∀ (n : Nat) (s : St) (path : List Int), Ok p s → Ok p (go p xs n s path).2.1 := by
  intro n
  induction n with
  | zero => intro s path h; exact h
  | succ n ih =>
    intro s path h
    rw [go]
    split
    · exact ih _ _ (h.step hR hW hx hl)
    · exact h
def first (l : List Int) (x : Int) : Int := if l.findIdx (· == x) < l.length then l.findIdx (· == x) else -1
theorem first_at {l : List Int} {x : Int} {k : Nat} (hk : k < l.length) (h : l.getD k 0 = x) (hn : ∀ j, j < k → l.getD j 0 ≠ x) : first l x = k := by
  have e : l.findIdx (· == x) = k := by
    rw [List.findIdx_eq hk]
    rw [List.getD_eq_getElem?_getD, List.getElem?_eq_getElem hk] at h
    refine ⟨by simpa using h, fun j hj => ?_⟩
    have := hn j hj
    rw [List.getD_eq_getElem?_getD, List.getElem?_eq_getElem (by omega)] at this
    simpa using this
  unfold first
  rw [e, if_pos hk]
theorem first_none {l : List Int} {x : Int} (hn : ∀ j, j < l.length → l.getD j 0 ≠ x) : first l x = -1 := by
  have e : l.findIdx (· == x) = l.length := by
    refine List.findIdx_eq_length.2 fun y hy => ?_
    obtain ⟨j, hj, rfl⟩ := List.getElem_of_mem hy
    have := hn j hj
    rw [List.getD_eq_getElem?_getD, List.getElem?_eq_getElem hj] at this
    simpa using this
  unfold first
  rw [e, if_neg (Nat.lt_irrefl _)]
theorem first_ge (l : List Int) (x : Int) : -1 ≤ first l x ∧ first l x < l.length := by
  unfold first
  split <;> omega
end Mc

set_option maxHeartbeats 1600000 in
theorem index_any (A : Option Addr) (n cap : Nat) (l : List Int) (x : Int) (w : World) (h : InSl w A n cap l) :
    Calls Tryd.prog 32 #[.slice A n cap, .int .i64 x] w fun e w' => e = .returned (.int .i64 (Mc.first l x)) ∧ Below w.heap.size w w' := by
  have hlm := Nat.le_trans h.hle h.hcap
  have hll := h.hlen
  unfold maxLen at hlm
  have HL := Lib.hid hll
  have HH := Lib.hid h
  clear h hll
  go_enter Tryd.func32, Tryd.ntmps32
  go_wp2
  go_loopw [5, 8] (fun _ i wr => ∃ k : Nat, k ≤ n ∧ i = .int .i64 k ∧ Below w.heap.size w wr ∧ ∀ j, j < k → l.getD j 0 ≠ x) (fun _ i _ => n - (intOf i).toNat)
  case atStart => exact ⟨0, by omega, rfl, Below.refl _ _, fun j hj => absurd hj (by omega)⟩
  case round =>
    obtain ⟨k, hk, rfl, hbr, hall⟩ := hrel
    have HR := Lib.hid hbr
    have HA := Lib.hid hall
    clear hbr hall
    by_cases hlt : k < n
    · have hkn : (k : Int) < n := by omega
      obtain ⟨b, o, rfl, hb, hx⟩ := HH.out.mem (by omega)
      have ck := (HR.out.cell (p := ⟨b, o + k, none⟩) hb).trans (hx k hlt)
      clear hx
      obtain ⟨z, hz⟩ : ∃ z, l.getD k 0 = z := ⟨_, rfl⟩
      rw [hz] at ck
      have HZ := Lib.hid hz
      clear hz
      by_cases hxz : x = z
      · have e0 : (x == z) = true := by simpa using hxz
        have HX := Lib.hid hxz
        clear hxz
        go_wp2
        go_ret
        exact ⟨ret_int' (Mc.first_at (by rw [HL.out]; exact hlt) (HZ.out.trans HX.out.symm) HA.out).symm, HR.out⟩
      · have e0 : (x == z) = false := by simpa using hxz
        have HX := Lib.hid hxz
        clear hxz
        go_wp2
        go_roundw
        case rel =>
          refine ⟨k + 1, by omega, by go_num, HR.out, fun j hj => ?_⟩
          rcases Nat.lt_succ_iff_lt_or_eq.1 hj with h1 | h1
          · exact HA.out j h1
          · rw [h1, HZ.out]; exact fun e => HX.out e.symm
        case measure => simp [intOf]; omega
    · have hkl : k = n := by omega
      have HK := Lib.hid hkl
      clear hkl
      have hkn : ¬ (k : Int) < n := by omega
      go_wp2
      go_ret
      exact ⟨ret_int' (Mc.first_none fun j hj => HA.out j (by have := HL.out; have := HK.out; omega)).symm, HR.out⟩

set_option maxHeartbeats 1600000 in
theorem first_any (A : Option Addr) (n cap : Nat) (l : List Int) (x : Int) (w : World) (h : InSl w A n cap l) :
    Calls Tryd.prog 25 #[.slice A n cap, .int .i64 x] w fun e w' => e = .returned (.int .i64 (Mc.first l x)) ∧ Below w.heap.size w w' := by
  have hlm := Nat.le_trans h.hle h.hcap
  have hll := h.hlen
  unfold maxLen at hlm
  have HL := Lib.hid hll
  have HH := Lib.hid h
  clear h hll
  go_enter Tryd.func25, Tryd.ntmps25
  go_wp2
  go_loopw [5] (fun i wr => ∃ k : Nat, k ≤ n ∧ i = .int .i64 k ∧ Below w.heap.size w wr ∧ ∀ j, j < k → l.getD j 0 ≠ x) (fun i _ => n - (intOf i).toNat)
  case atStart => exact ⟨0, by omega, rfl, Below.refl _ _, fun j hj => absurd hj (by omega)⟩
  case round =>
    obtain ⟨k, hk, rfl, hbr, hall⟩ := hrel
    have HR := Lib.hid hbr
    have HA := Lib.hid hall
    clear hbr hall
    by_cases hlt : k < n
    · have hkn : (k : Int) < n := by omega
      obtain ⟨b, o, rfl, hb, hx⟩ := HH.out.mem (by omega)
      have ck := (HR.out.cell (p := ⟨b, o + k, none⟩) hb).trans (hx k hlt)
      clear hx
      obtain ⟨z, hz⟩ : ∃ z, l.getD k 0 = z := ⟨_, rfl⟩
      rw [hz] at ck
      have HZ := Lib.hid hz
      clear hz
      by_cases hxz : x = z
      · have e0 : (z == x) = true := by simpa using hxz.symm
        have HX := Lib.hid hxz
        clear hxz
        go_wp2
        go_ret
        exact ⟨ret_int' (Mc.first_at (by rw [HL.out]; exact hlt) (HZ.out.trans HX.out.symm) HA.out).symm, HR.out⟩
      · have e0 : (z == x) = false := by simpa using fun e : z = x => hxz e.symm
        have HX := Lib.hid hxz
        clear hxz
        go_wp2
        go_roundw
        case rel =>
          refine ⟨k + 1, by omega, by go_num, HR.out, fun j hj => ?_⟩
          rcases Nat.lt_succ_iff_lt_or_eq.1 hj with h1 | h1
          · exact HA.out j h1
          · rw [h1, HZ.out]; exact fun e => HX.out e.symm
        case measure => simp [intOf]; omega
    · have hkl : k = n := by omega
      have HK := Lib.hid hkl
      clear hkl
      have hkn : ¬ (k : Int) < n := by omega
      go_wp2
      go_ret
      exact ⟨ret_int' (Mc.first_none fun j hj => HA.out j (by have := HL.out; have := HK.out; omega)).symm, HR.out⟩

/-- What Run answers, whatever the image and the input. -/
def RunA (r : List Int × Int × List Int × List Int × Int) (w : World) (e : Ending) (w' : World) : Prop :=
  ∃ pA pcap mA mcap, e = .returned (.tuple #[.agg (trC (.slice pA r.1.length pcap) r.2.1 r.2.2.1 (.slice mA r.2.2.2.1.length mcap)), .int .i64 r.2.2.2.2]) ∧ InSl w' pA r.1.length pcap r.1 ∧ BySl w' mA r.2.2.2.1.length mcap r.2.2.2.1 ∧ Below w.heap.size w w'
theorem answer_isB {p : Im.Pic} {xs : List Int} (steps : Int) (hW : Mc.Wc p) (hx : Cd.isB xs) (hd : Cd.isB p.ds) : Cd.isB (Mc.answer p xs steps).2.2.2.1 := by
  unfold Mc.answer
  split
  · exact isB_of fun n hn => absurd hn (by simp)
  · rename_i h0
    split
    · exact isB_of fun n hn => absurd hn (by simp)
    · rename_i h1
      have hR : Mc.R p := by unfold Mc.R; simpa using h0
      have hC := hR.cnt.2.2.1
      exact (Mc.go_ok hR hW hx (by omega) _ _ _ (Mc.mem0_ok hR hd)).mb
theorem run_any (H : Hd) (steps : Int) (w : World) (ho : Ops w) (HA : HdAt w H) :
    Calls Tryd.prog 12 #[.agg #[.int .i64 H.mem, .int .i64 H.stk, .int .i64 H.inp, .slice H.Ad H.ld H.cd, .slice H.Af H.lf H.cf, .slice H.Ac H.lc H.cc], .slice H.Ai H.li H.ci, .int .i64 steps] w (RunA (Mc.answer H.p H.xs steps) w) := by
  have key : Calls Tryd.prog 12 #[.agg #[.int .i64 H.mem, .int .i64 H.stk, .int .i64 H.inp, .slice H.Ad H.ld H.cd, .slice H.Af H.lf H.cf, .slice H.Ac H.lc H.cc], .slice H.Ai H.li H.ci, .int .i64 steps] w (RunP (Mc.answer H.p H.xs steps) w) := by
    by_cases hc : Im.chk H.p = 0
    · by_cases hl : H.p.inp < H.xs.length
      · exact run_long H steps w ho HA hc hl
      · exact run_right H steps w ho HA hc (by omega)
    · exact run_bad H steps w ho HA hc
  refine key.mono ?_
  rintro e w' ⟨PV, M, he, h1, h2, h3⟩
  obtain ⟨pA, pcap, hp, _⟩ := own_open h1
  obtain ⟨mA, mcap, hm, _⟩ := own_open h2
  rw [hp] at h1 he
  rw [hm] at h2 he
  exact ⟨pA, pcap, mA, mcap, he, InSl.of_own h1, BySl.of_own h2 (answer_isB steps HA.img.c.rng HA.inp.isB HA.img.d.isB), h3⟩
end Go.Proofs.YthkhadbeomkihaaDoor
