/-
  The contract of Encode.
-/
import Derived.Test.YthkhadbeomkihaaDoorImW5
namespace Go.Proofs.YthkhadbeomkihaaDoor
set_option maxRecDepth 100000
open Go.RowKit

namespace Im
theorem mem_isB {xs : List Int} (h : Cd.isB xs) {x : Int} (hx : x ∈ xs) : 0 ≤ x ∧ x ≤ 255 := by
  obtain ⟨i, hi, rfl⟩ := List.getElem_of_mem hx
  have := h i
  rwa [List.getD_eq_getElem?_getD, List.getElem?_eq_getElem hi] at this
theorem isB_two {x : Int} (h0 : 0 ≤ x) (h1 : x < 65536) : Cd.isB (two x) := isB_of fun n hn => by
  simp [two] at hn
  omega
theorem isB_flat {α : Type} {l : List α} {f : α → List Int} (h : ∀ a ∈ l, Cd.isB (f a)) : Cd.isB (l.flatMap f) := isB_of fun n hn => by
  obtain ⟨a, ha, hn⟩ := List.mem_flatMap.1 hn
  exact mem_isB (h a ha) hn
theorem getD_mem {α : Type} {l : List α} {z a : α} (h : a ∈ l) : ∃ k, k < l.length ∧ l.getD k z = a := by
  obtain ⟨i, hi, rfl⟩ := List.getElem_of_mem h
  exact ⟨i, hi, by rw [List.getD_eq_getElem?_getD, List.getElem?_eq_getElem hi]; rfl⟩
theorem Places.lt {fs : List Int} {nc : Nat} (h : Places fs nc) {k : Nat} (hk : k < fs.length) : fs.getD k 0 < nc :=
  Int.lt_of_lt_of_le (h.lt_till hk) (h.till_le hk)
theorem isB_enc {p : Pic} (hC : Cnt p) (hd : Cd.isB p.ds) (hb : ∀ j, j < p.cs.length → bad5 (p.cs.getD j z5) = -1) : Cd.isB (enc p) := by
  obtain ⟨m1, m2, m3, m4, m5, m6, m7⟩ := hC
  have h1 : Cd.isB [82, 66, 54, 52, 1, p.mem, p.stk, p.inp, (p.ds.length : Int)] := isB_of fun n hn => by
    simp at hn
    omega
  have h2 : Cd.isB [(p.fs.length : Int)] := isB_of fun n hn => by
    simp at hn
    omega
  have h3 : Cd.isB (p.fs.flatMap two) := isB_flat fun x hx => by
    obtain ⟨k, hk, rfl⟩ := getD_mem (z := 0) hx
    have := m7.lt hk
    exact isB_two (m7.nonneg hk) (by omega)
  have h4 : Cd.isB (p.cs.flatMap bts5) := isB_flat fun x hx => by
    obtain ⟨k, hk, rfl⟩ := getD_mem (z := z5) hx
    exact isB_bts (hb k hk)
  exact isB_append (isB_append (isB_append (isB_append (isB_append h1 hd) h2) h3) (isB_two (by omega) (by omega))) h4
theorem bts_take (cs : List I5) (k : Nat) (h : k < cs.length) : (cs.take (k + 1)).flatMap bts5 = (cs.take k).flatMap bts5 ++ bts5 (cs.getD k z5) := by
  rw [List.take_succ_eq_append_getElem h, List.flatMap_append, List.getD_eq_getElem?_getD, List.getElem?_eq_getElem h]
  simp
theorem chk_cnt {p : Pic} (h : ¬ Cnt p) : chk p = 3 := by unfold chk; rw [if_neg h]
theorem chk_bad {p : Pic} {e : Int} (h : Cnt p) (he : firstE p.cs = e) (hn : e ≠ 0) : chk p = e := by unfold chk; rw [if_pos h, he, if_neg hn]
theorem chk_fl {p : Pic} (h : Cnt p) (he : firstE p.cs = 0) : chk p = if flB p.fs p.cs = true then 7 else 0 := by
  unfold chk flB
  rw [if_pos h, if_pos he]
  simp
theorem out_bad {p : Pic} (h : chk p ≠ 0) : out p = [] := by unfold out; rw [if_neg h]
theorem out_ok {p : Pic} (h : chk p = 0) : out p = enc p := by unfold out; rw [if_pos h]
end Im
theorem ret_tup {v : Value} {a b : Int} (h : a = b) : Ending.returned (.tuple #[v, .int .i64 a]) = .returned (.tuple #[v, .int .i64 b]) := by rw [h]
theorem blk_lt {w : World} {g : Nat} {t : TypeId} {cs : Array Value} (h : Blk w g t cs) : g < w.heap.size := by
  rcases Nat.lt_or_ge g w.heap.size with h1 | h1
  · exact h1
  · unfold Blk at h
    rw [Array.getElem?_eq_none h1] at h
    cases h
theorem own_below {w w' : World} {base : Nat} {e : TypeId} {size : Nat} {v : Value} {n : Nat} {xs : List Value} (h : w.ownsRow base e size v n xs) (hb : Below w.heap.size w w') : w'.ownsRow base e size v n xs :=
  ⟨h.1, h.2.elim Or.inl fun ⟨g, cap, cur, hv, hg, hh, r⟩ => Or.inr ⟨g, cap, cur, hv, hg, (hb.block g (blk_lt (t := e) (cs := cur) hh)).trans hh, r⟩⟩
theorem BySl.nil {w : World} : BySl w none 0 0 [] := ⟨rfl, Nat.le_refl _, Nat.zero_le _, fun _ => rfl, isB_of (fun n hn => absurd hn (by simp)), fun h0 => absurd h0 (by omega)⟩
theorem BySl.of_own {w : World} {base : Nat} {A : Option Addr} {n cap : Nat} {xs : List Int} (h : w.ownsRow base 5 1 (.slice A n cap) n (xs.map (Value.int .u8))) (hB : Cd.isB xs) : BySl w A n cap xs := by
  obtain ⟨A', cap', e, h1, h2, h3, _⟩ := Sl.of_own h
  injection e with e1 e2 e3
  subst e1 e3
  refine ⟨by simpa using h3.1, h1, h2, fun hn => ?_, hB, fun h0 => byts_of_sl h3 h0⟩
  rcases Nat.eq_zero_or_pos n with h0 | h0
  · exact h0
  · obtain ⟨b, o, e, _⟩ := h3.2 h0
    rw [hn] at e; cases e

set_option maxHeartbeats 400000 in
theorem encode_cnt (mem stk inp : Int) (Ad : Option Addr) (ld cd : Nat) (Af : Option Addr) (lf cf : Nat) (Ac : Option Addr) (lc cc : Nat) (p : Im.Pic) (w : World) (hi : ImAt w Ad ld cd Af lf cf Ac lc cc p) (hC : ¬ Im.Cnt p) (e0 : p.mem = mem) (e1 : p.stk = stk) (e2 : p.inp = inp) :
    Calls Tryd.prog 28 #[.agg #[.int .i64 mem, .int .i64 stk, .int .i64 inp, .slice Ad ld cd, .slice Af lf cf, .slice Ac lc cc]] w fun e w' => e = .returned (.tuple #[.slice none 0 0, .int .i64 3]) ∧ Below w.heap.size w w' := by
  have hCF : ∀ W : World, ImAt W Ad ld cd Af lf cf Ac lc cc p → Calls Tryd.prog 42 #[.agg #[.int .i64 mem, .int .i64 stk, .int .i64 inp, .slice Ad ld cd, .slice Af lf cf, .slice Ac lc cc]] W fun e w' => e = .returned (.bool false) ∧ Below W.heap.size W w' := fun W h => by
    have := counts_any mem stk inp Ad ld cd Af lf cf Ac lc cc p W h e0 e1 e2
    rwa [decide_eq_false hC] at this
  have HC := Lib.hid hCF
  have HI := Lib.hid (hi.below (Below.box w (.cells #[.int .i64 mem, .int .i64 stk, .int .i64 inp, .slice Ad ld cd, .slice Af lf cf, .slice Ac lc cc] 26)))
  clear hCF hi hC e0 e1 e2
  go_enter Tryd.func28, Tryd.ntmps28
  go_wp2_with fail
  refine (HC.out _ HI.out).mono ?_
  rintro e v ⟨rfl, hb⟩
  have HB := Lib.hid hb
  clear hb
  go_wp2
  go_ret2
  exact ⟨rfl, (Below.box _ _).trans (HB.out.mono (by simp))⟩

set_option maxRecDepth 10000 in
set_option maxHeartbeats 1600000 in
theorem encode_right (mem stk inp : Int) (Ad : Option Addr) (ld cd : Nat) (Af : Option Addr) (lf cf : Nat) (Ac : Option Addr) (lc cc : Nat) (p : Im.Pic) (w : World) (ho : Ops w) (hi : ImAt w Ad ld cd Af lf cf Ac lc cc p) (hC : Im.Cnt p) (e0 : p.mem = mem) (e1 : p.stk = stk) (e2 : p.inp = inp) :
    Calls Tryd.prog 28 #[.agg #[.int .i64 mem, .int .i64 stk, .int .i64 inp, .slice Ad ld cd, .slice Af lf cf, .slice Ac lc cc]] w fun e w' => ∃ A n cap, e = .returned (.tuple #[.slice A n cap, .int .i64 (Im.chk p)]) ∧ BySl w' A n cap (Im.out p) ∧ Below w.heap.size w w' := by
  obtain ⟨i0, hi0, hz0, hz1, hz2⟩ := info_parts u8_info
  have hCF : ∀ W : World, ImAt W Ad ld cd Af lf cf Ac lc cc p → Calls Tryd.prog 42 #[.agg #[.int .i64 mem, .int .i64 stk, .int .i64 inp, .slice Ad ld cd, .slice Af lf cf, .slice Ac lc cc]] W fun e w' => e = .returned (.bool true) ∧ Below W.heap.size W w' := fun W h => by
    have := counts_any mem stk inp Ad ld cd Af lf cf Ac lc cc p W h e0 e1 e2
    rwa [decide_eq_true hC] at this
  have hHF : ∀ W : World, ImAt W Ad ld cd Af lf cf Ac lc cc p → Calls Tryd.prog 43 #[.agg #[.int .i64 mem, .int .i64 stk, .int .i64 inp, .slice Ad ld cd, .slice Af lf cf, .slice Ac lc cc]] W fun e w' => ∃ A n cap, e = .returned (.slice A n cap) ∧ n ≤ 200 ∧ w'.ownsRow (W.heap.size + 1) 5 1 (.slice A n cap) n ((Im.head p).map (Value.int .u8)) ∧ Below W.heap.size W w' :=
    fun W h => head_any mem stk inp Ad ld cd Af lf cf Ac lc cc p W h hC e0 e1 e2
  have hcl := Lib.hid hi.c.hlen
  have hfl := Lib.hid hi.f.hlen
  have hFL : ∀ W : World, ImAt W Ad ld cd Af lf cf Ac lc cc p → Calls Tryd.prog 45 #[.agg #[.int .i64 mem, .int .i64 stk, .int .i64 inp, .slice Ad ld cd, .slice Af lf cf, .slice Ac lc cc]] W fun e w' => e = .returned (.tuple #[.int .i64 (Im.flI p.fs p.cs), .bool (Im.flB p.fs p.cs)]) ∧ Below W.heap.size W w' :=
    fun W h => flaw_any mem stk inp Ad ld cd Af lf cf Ac lc cc p W h (by rw [← hcl.out]; exact hC.2.2.2.2.2.2) (by rw [← hfl.out]; exact hC.2.2.2.2.1.1)
  have hlc : lc ≤ 256 := by rw [← hcl.out]; exact hC.2.2.2.2.2.1.2
  have hp := ho.pos
  have HC := Lib.hid hCF
  have HH := Lib.hid hHF
  have HF := Lib.hid hFL
  have HCN := Lib.hid hC
  have H0 := Lib.hid (Below.box w (.cells #[.int .i64 mem, .int .i64 stk, .int .i64 inp, .slice Ad ld cd, .slice Af lf cf, .slice Ac lc cc] 26))
  have HI := Lib.hid hi
  have HOP := Lib.hid ho
  have HRG := Lib.hid hi.c.rng
  clear hCF hHF hFL hi hC ho e0 e1 e2
  have b0 : (w.alloc (.cells #[.int .i64 mem, .int .i64 stk, .int .i64 inp, .slice Ad ld cd, .slice Af lf cf, .slice Ac lc cc] 26)).cell? ⟨w.heap.size, 0, none⟩ = some (.int .i64 mem) := by simp
  have b1 : (w.alloc (.cells #[.int .i64 mem, .int .i64 stk, .int .i64 inp, .slice Ad ld cd, .slice Af lf cf, .slice Ac lc cc] 26)).cell? ⟨w.heap.size, 1, none⟩ = some (.int .i64 stk) := by simp
  have b2 : (w.alloc (.cells #[.int .i64 mem, .int .i64 stk, .int .i64 inp, .slice Ad ld cd, .slice Af lf cf, .slice Ac lc cc] 26)).cell? ⟨w.heap.size, 2, none⟩ = some (.int .i64 inp) := by simp
  have b3 : (w.alloc (.cells #[.int .i64 mem, .int .i64 stk, .int .i64 inp, .slice Ad ld cd, .slice Af lf cf, .slice Ac lc cc] 26)).cell? ⟨w.heap.size, 3, none⟩ = some (.slice Ad ld cd) := by simp
  have b4 : (w.alloc (.cells #[.int .i64 mem, .int .i64 stk, .int .i64 inp, .slice Ad ld cd, .slice Af lf cf, .slice Ac lc cc] 26)).cell? ⟨w.heap.size, 4, none⟩ = some (.slice Af lf cf) := by simp
  have b5 : (w.alloc (.cells #[.int .i64 mem, .int .i64 stk, .int .i64 inp, .slice Ad ld cd, .slice Af lf cf, .slice Ac lc cc] 26)).cell? ⟨w.heap.size, 5, none⟩ = some (.slice Ac lc cc) := by simp
  have G0 := Lib.hid b0
  have G1 := Lib.hid b1
  have G2 := Lib.hid b2
  have G3 := Lib.hid b3
  have G4 := Lib.hid b4
  have G5 := Lib.hid b5
  clear b0 b1 b2 b3 b4 b5
  go_enter Tryd.func28, Tryd.ntmps28
  go_wp2_with fail
  refine (HC.out _ (HI.out.below H0.out)).mono ?_
  rintro e v ⟨rfl, hb⟩
  have hbv : Below (w.heap.size + 1) (w.alloc (.cells #[.int .i64 mem, .int .i64 stk, .int .i64 inp, .slice Ad ld cd, .slice Af lf cf, .slice Ac lc cc] 26)) v := hb.mono (by simp)
  have c0 := cells_below hbv G0.out (by simp)
  have c1 := cells_below hbv G1.out (by simp)
  have c2 := cells_below hbv G2.out (by simp)
  have c3 := cells_below hbv G3.out (by simp)
  have c4 := cells_below hbv G4.out (by simp)
  have c5 := cells_below hbv G5.out (by simp)
  have HV := Lib.hid hbv
  clear hb hbv
  go_wp2_with fail
  refine (HH.out _ ((HI.out.below H0.out).below (HV.out.mono (by simp)))).mono ?_
  rintro e v1 ⟨A1, n1, cap1, rfl, hn1, hown1, hb1⟩
  have hbv : Below (w.heap.size + 1) (w.alloc (.cells #[.int .i64 mem, .int .i64 stk, .int .i64 inp, .slice Ad ld cd, .slice Af lf cf, .slice Ac lc cc] 26)) v1 := HV.out.trans (hb1.mono (by have := HV.out.size; simp at this; omega))
  have hvz : w.heap.size + 1 ≤ v.heap.size := by have := HV.out.size; simp at this; omega
  have d5 := cells_below hbv G5.out (by simp)
  have HV1 := Lib.hid hbv
  have HO1 := Lib.hid (Joins.ownsRow_le (base' := w.heap.size + 1) hown1 (by omega))
  clear hb1 hbv hown1 c0 c1 c2 c3 c4 c5
  clear hvz
  go_wp2
  go_loopw [4, 19] (fun b i wr => ∃ k : Nat, k ≤ lc ∧ i = .int .i64 k ∧ (∃ A c, b = .slice A (n1 + 12 * k) c ∧ wr.ownsRow (w.heap.size + 1) 5 1 (.slice A (n1 + 12 * k) c) (n1 + 12 * k) ((Im.head p ++ (p.cs.take k).flatMap Im.bts5).map (Value.int .u8))) ∧ Below (w.heap.size + 1) (w.alloc (.cells #[.int .i64 mem, .int .i64 stk, .int .i64 inp, .slice Ad ld cd, .slice Af lf cf, .slice Ac lc cc] 26)) wr ∧ ∀ j, j < k → Im.bad5 (p.cs.getD j Im.z5) = -1) (fun _ i _ => lc - (intOf i).toNat)
  case atStart => exact ⟨0, by omega, rfl, ⟨A1, cap1, rfl, by simpa using HO1.out⟩, HV1.out, fun j hj => absurd hj (by omega)⟩
  case round =>
    obtain ⟨k, hk, rfl, ⟨A, c, rfl, hown⟩, hbr, hall⟩ := hrel
    have HR := Lib.hid hbr
    have HO := Lib.hid hown
    have HA := Lib.hid hall
    have hsz : w.heap.size + 1 ≤ wr.heap.size := by have := hbr.size; simp at this; omega
    have HSZ := Lib.hid hsz
    have c0 := cells_below hbr G0.out (by simp)
    have c1 := cells_below hbr G1.out (by simp)
    have c2 := cells_below hbr G2.out (by simp)
    have c3 := cells_below hbr G3.out (by simp)
    have c4 := cells_below hbr G4.out (by simp)
    have c5 := cells_below hbr G5.out (by simp)
    clear hbr hown hall hsz d5
    by_cases hlt : k < lc
    · have hkc : k < p.cs.length := by have := hcl.out; omega
      obtain ⟨bc, oc, rfl, hbc, hcc⟩ := ((HI.out.below H0.out).c.below (HR.out.mono (by simp))).mem (by omega)
      have hins := hcc k hlt
      have hm := HRG.out k
      have hI5 : ∃ i, p.cs.getD k Im.z5 = i := ⟨_, rfl⟩
      obtain ⟨⟨op, a, b, c', m⟩, hei⟩ := hI5
      rw [hei] at hins hm
      obtain ⟨x0, x1, x2, x3, x4⟩ := hins
      simp only at x0 x1 x2 x3 x4 hm
      have HE := Lib.hid hei
      have HM := Lib.hid hm
      have hop : ∀ o, Ops (wr.alloc o) := fun o => HOP.out.below (H0.out.trans ((HR.out.alloc (HSZ.out) o).mono (by omega))) hp
      have HOPr := Lib.hid hop
      clear hei hcc hm hop
      by_cases hbad : Cd.bad op a b c' m = -1
      · have HBD := Lib.hid hbad
        clear hbad
        go_wp2_with fail
        refine (put_ok op a b c' m _ (HOPr.out _) HBD.out HM.out.1 HM.out.2).mono ?_
        rintro e v2 ⟨g, rfl, hg, hblk, hb2⟩
        have hb2' : Below (w.heap.size + 1) (w.alloc (.cells #[.int .i64 mem, .int .i64 stk, .int .i64 inp, .slice Ad ld cd, .slice Af lf cf, .slice (some ⟨bc, oc, none⟩) lc cc] 26)) v2 := (HR.out.alloc HSZ.out _).trans (hb2.mono (by simp; have := HSZ.out; omega))
        have hsl : Sl v2 (some ⟨g, 0, none⟩) 12 ((Cd.bts op a b c' m).map (Value.int .u8)) := ⟨rfl, fun _ => ⟨g, 0, rfl, blk_lt hblk, (Byts.of_blk hblk).news⟩⟩
        have hown2 : v2.ownsRow (w.heap.size + 1) 5 1 (.slice A (n1 + 12 * k) c) (n1 + 12 * k) ((Im.head p ++ (p.cs.take k).flatMap Im.bts5).map (Value.int .u8)) := own_below (HO.out.alloc _) hb2
        have HS2 := Lib.hid hsl
        have HB2 := Lib.hid hb2'
        have HO2 := Lib.hid hown2
        have hnx : Im.head p ++ (p.cs.take k).flatMap Im.bts5 ++ Cd.bts op a b c' m = Im.head p ++ (p.cs.take (k + 1)).flatMap Im.bts5 := by
          rw [Im.bts_take _ _ hkc, HE.out, List.append_assoc]; rfl
        have HNX := Lib.hid hnx
        clear hsl hb2' hown2 hnx hblk hb2 hg
        go_wp2_with (
          at_builtin
          refine wpList_ap (w := v2) rfl (.tmp 31) (.tmp 32) _ rfl (w.heap.size + 1) 5 i0 _ 1 Tryd.underlying22 hi0 hz0 hz1 hz2 rfl (.slice A (n1 + 12 * k) c) (n1 + 12 * k) _ rfl
            HO2.out (some ⟨g, 0, none⟩) 12 12 ((Cd.bts op a b c' m).map (Value.int .u8)) rfl HS2.out (fun e => by cases e) (one_cell _) (by simp only [maxLen]; omega) (by omega) (by have := HB2.out.size; simp at this; omega) (n1 + 12 * (k + 1)) ((Im.head p ++ (p.cs.take (k + 1)).flatMap Im.bts5).map (Value.int .u8)) (by omega) (by rw [← HNX.out]; simp) ?_
          intro A3 cap3 w3 hc1 hc2 hown3 hsl3 hb3)
        go_roundw
        case rel =>
          refine ⟨k + 1, by omega, by go_num, ⟨A3, cap3, rfl, hown3⟩, HB2.out.trans hb3, fun j hj => ?_⟩
          rcases Nat.lt_succ_iff_lt_or_eq.1 hj with h | h
          · exact HA.out j h
          · rw [h, HE.out]; exact HBD.out
        case measure => simp [intOf]; omega
      · have hck : Im.chk p = Cd.er (Cd.bad op a b c' m) := by
          have h1 := Im.firstE_at p.cs k hkc HA.out (by rw [HE.out]; exact hbad)
          rw [HE.out] at h1
          exact Im.chk_bad HCN.out h1 (Im.er_ne hbad)
        have hne : (Cd.er (Cd.bad op a b c' m) != 0) = true := by simpa using Im.er_ne hbad
        have HBD := Lib.hid hbad
        have HCK := Lib.hid hck
        clear hck hbad
        go_wp2_with fail
        refine (put_bad op a b c' m _ (HOPr.out _) HBD.out).mono ?_
        rintro e v2 ⟨rfl, hb2⟩
        have HB2 := Lib.hid hb2
        clear hb2
        go_wp2
        go_ret2
        refine ⟨none, 0, 0, ret_tup HCK.out.symm, ?_, H0.out.trans (((HR.out.alloc HSZ.out _).trans (HB2.out.mono (by simp; have := HSZ.out; omega))).mono (by omega))⟩
        rw [Im.out_bad (by rw [HCK.out]; exact Im.er_ne HBD.out)]
        exact BySl.nil
    · have hkl : k = lc := by omega
      have htk : p.cs.take k = p.cs := List.take_of_length_le (by have := hcl.out; omega)
      rw [htk] at HO
      have hall : ∀ j, j < p.cs.length → Im.bad5 (p.cs.getD j Im.z5) = -1 := fun j hj => HA.out j (by have := hcl.out; omega)
      have hck := Im.chk_fl HCN.out (Im.firstE_none _ hall)
      have HIB := Lib.hid (Im.isB_enc HCN.out HI.out.d.isB hall)
      have HCK := Lib.hid hck
      have hF : ∃ f, Im.flB p.fs p.cs = f := ⟨_, rfl⟩
      obtain ⟨f, hf⟩ := hF
      have hFL : Calls Tryd.prog 45 #[.agg #[.int .i64 mem, .int .i64 stk, .int .i64 inp, .slice Ad ld cd, .slice Af lf cf, .slice Ac lc cc]] wr fun e w' => e = .returned (.tuple #[.int .i64 (Im.flI p.fs p.cs), .bool f]) ∧ Below wr.heap.size wr w' := by
        have := HF.out wr ((HI.out.below H0.out).below (HR.out.mono (by simp)))
        rwa [hf] at this
      have HFF := Lib.hid hf
      have HFL := Lib.hid hFL
      clear hck htk hkl hall hf hFL
      go_wp2_with fail
      refine HFL.out.mono ?_
      rintro e v2 ⟨rfl, hb2⟩
      have hown2 : v2.ownsRow (w.heap.size + 1) 5 1 (.slice A (n1 + 12 * k) c) (n1 + 12 * k) ((Im.head p ++ p.cs.flatMap Im.bts5).map (Value.int .u8)) := own_below HO.out hb2
      have HO2 := Lib.hid hown2
      have HB2 := Lib.hid (H0.out.trans ((HR.out.trans (hb2.mono HSZ.out)).mono (by omega)))
      clear hb2 hown2
      go_wp2
      · go_ret2
        have h1 : Im.chk p = 7 := by rw [HCK.out, HFF.out]; simp_all
        refine ⟨none, 0, 0, ret_tup h1.symm, ?_, HB2.out⟩
        rw [Im.out_bad (by rw [h1]; decide)]
        exact BySl.nil
      · go_ret2
        have h1 : Im.chk p = 0 := by rw [HCK.out, HFF.out]; simp_all
        refine ⟨_, _, _, ret_tup h1.symm, ?_, HB2.out⟩
        rw [Im.out_ok h1]
        exact BySl.of_own HO2.out HIB.out

theorem encode_any (mem stk inp : Int) (Ad : Option Addr) (ld cd : Nat) (Af : Option Addr) (lf cf : Nat) (Ac : Option Addr) (lc cc : Nat) (p : Im.Pic) (w : World) (ho : Ops w) (hi : ImAt w Ad ld cd Af lf cf Ac lc cc p) (e0 : p.mem = mem) (e1 : p.stk = stk) (e2 : p.inp = inp) :
    Calls Tryd.prog 28 #[.agg #[.int .i64 mem, .int .i64 stk, .int .i64 inp, .slice Ad ld cd, .slice Af lf cf, .slice Ac lc cc]] w fun e w' => ∃ A n cap, e = .returned (.tuple #[.slice A n cap, .int .i64 (Im.chk p)]) ∧ BySl w' A n cap (Im.out p) ∧ Below w.heap.size w w' := by
  by_cases hC : Im.Cnt p
  · exact encode_right mem stk inp Ad ld cd Af lf cf Ac lc cc p w ho hi hC e0 e1 e2
  · refine (encode_cnt mem stk inp Ad ld cd Af lf cf Ac lc cc p w hi hC e0 e1 e2).mono ?_
    rintro e w' ⟨rfl, hb⟩
    have h1 := Im.chk_cnt hC
    exact ⟨none, 0, 0, by rw [h1], by rw [Im.out_bad (by rw [h1]; decide)]; exact BySl.nil, hb⟩
end Go.Proofs.YthkhadbeomkihaaDoor
