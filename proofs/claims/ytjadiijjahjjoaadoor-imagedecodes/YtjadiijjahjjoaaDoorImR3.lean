/-
  Contracts of form, Clone and instruction.
-/
import Derived.Test.YtjadiijjahjjoaaDoorImDe
import Derived.Test.YtjadiijjahjjoaaDoorCdA0
namespace Go.Proofs.YtjadiijjahjjoaaDoor
open Go.RowKit
attribute [local go_sem ↓] Go.wp_at_zero Go.wp_at_succ

/-- A slice of bytes as a string. -/
theorem by_str {w : World} {A : Option Addr} {n cap : Nat} {xs : List Int} (h : BySl w A n cap xs) : (convert 22 9 (.slice A n cap)).run Tryd.prog w = .ok (.string (strOfNums xs)) w := by
  rcases Nat.eq_zero_or_pos n with h0 | h0
  · subst h0
    obtain rfl : xs = [] := List.eq_nil_of_length_eq_zero h.hlen
    rw [run_convert_bytes_string w 22 9 5 _ 0 cap Tryd.underlying22 Tryd.underlying5 Tryd.underlying9]
    cases A <;> simp [Conv.bytesToString, loadCells]
    all_goals rfl
  · obtain ⟨b, o, rfl, _, hx⟩ := h.mem h0
    exact run_convert_bytes_arg w 22 5 Tryd.underlying22 Tryd.underlying5 b o n cap xs h.hlen (fun i hi => hx.at0 i (by rw [h.hlen]; exact hi)) 9 Tryd.underlying9

theorem neq_str (S L : ByteArray) (W : World) : (binOp .neq 9 (.string S) (.string L)).run Tryd.prog W = .ok (.bool (!decide (S = L))) W := by
  have h := Tryd.underlying9
  go_simp
  by_cases e : S = L
  · subst e; simp
  · have : (S.toList == L.toList) = false := by
      rw [Bool.eq_false_iff]
      exact fun h => e (bytes_of_beq h)
    simp [e, this]
theorem eql_str (S L : ByteArray) (W : World) : (binOp .eql 9 (.string S) (.string L)).run Tryd.prog W = .ok (.bool (decide (S = L))) W := by
  have h := Tryd.underlying9
  go_simp
  by_cases e : S = L
  · subst e; simp
  · have : (S.toList == L.toList) = false := by
      rw [Bool.eq_false_iff]
      exact fun h => e (bytes_of_beq h)
    simp [e, this]
theorem drop0 {xs : List Int} : (xs.drop 0).take 4 = xs.take 4 := rfl
theorem letters_str : strOfNums Im.letters = ⟨#[82, 66, 54, 52]⟩ := by decide +kernel
theorem letters_ne {xs : List Int} (hB : Cd.isB xs) (h : xs.take 4 ≠ Im.letters) : strOfNums (xs.take 4) ≠ ⟨#[82, 66, 54, 52]⟩ := fun e => by
  rw [← letters_str] at e
  refine h (strOfNums_inj (fun x hx => Im.mem_isB hB (List.mem_of_mem_take hx)) ?_ e)
  intro y hy
  simp [Im.letters] at hy
  omega

/-- What a part of the reader does: it breaks off as the plain function says, or goes on as it goes on. -/
def StepP (g : Nat) (w : World) (d : Int × Int → Int × Int) (R : Ending → World → Prop) (e : Ending) (w' : World) : Prop :=
  Rd g w w' ∧ ((∃ a b, e = flt a b ∧ a ≠ 0 ∧ ∀ c, d c = (a, b)) ∨ ((∀ c, d c = c) ∧ R e w'))

set_option maxRecDepth 20000 in
set_option maxHeartbeats 800000 in
theorem form_any (g : Nat) (A : Option Addr) (len cap : Nat) (xs : List Int) (w : World) (hb : RB w g A len cap (0 : Nat)) (hx : ByR g w A len cap xs) :
    Calls Tryd.prog 44 #[.pointer (some ⟨g, 0, none⟩)] w (StepP g w (Im.dA xs) fun e w' => e = .returned (.tuple #[]) ∧ 5 ≤ len ∧ RB w' g A len cap (5 : Nat)) := by
  have hlen := hx.sl.hlen
  have hle := hx.sl.hle
  have hcp := hx.sl.hcap
  have hB := Lib.hid hx.sl.isB
  unfold maxLen at hcp
  by_cases h4 : len < 4
  · have HP := Lib.hid (part_short g A len cap 0 4 w hb (by omega) (by omega) (by omega) (by omega))
    have hd : ∀ c, Im.dA xs c = (1, (len : Int)) := fun c => by unfold Im.dA; rw [hlen, if_pos h4]
    have HD := Lib.hid hd
    clear hb hx hlen hd
    go_enter Tryd.func44, Tryd.ntmps44
    go_wp2_with fail
    refine HP.out.mono ?_
    rintro e v ⟨rfl, hr⟩
    exact ⟨rfl, hr, .inl ⟨1, len, rfl, by decide, HD.out⟩⟩
  · obtain ⟨b, o, rfl, _, _⟩ := hx.sl.mem (by omega)
    have HP := Lib.hid (part_ok g b o len cap 0 4 xs w hb hx (by omega) (by omega))
    have HX := Lib.hid hx
    have HL := Lib.hid hlen
    clear hb hx hlen
    by_cases hl : xs.take 4 = Im.letters
    · have HLE := Lib.hid hl
      clear hl
      go_enter Tryd.func44, Tryd.ntmps44
      go_wp2_with fail
      refine HP.out.mono ?_
      rintro e v ⟨A', cap', rfl, hx', hb', hr', _⟩
      have hcv := by_str hx'.sl
      rw [drop0, HLE.out, letters_str] at hcv
      have c1 := hb'.c1
      have HB' := Lib.hid hb'
      have HR' := Lib.hid hr'
      clear hx' hb' hr'
      go_wp2_with fail
      by_cases h5 : len < 5
      · refine (part_short g _ len cap 4 1 v HB'.out (by omega) (by omega) (by omega) (by omega)).mono ?_
        rintro e v2 ⟨rfl, hr⟩
        refine ⟨rfl, HR'.out.trans hr, .inl ⟨1, len, rfl, by decide, fun c => ?_⟩⟩
        unfold Im.dA
        rw [HL.out, if_neg h4, if_pos HLE.out, if_pos h5]
      · refine (part_ok g b o len cap 4 1 xs v HB'.out (HX.out.rd HR'.out) (by omega) (by omega)).mono ?_
        rintro e v2 ⟨A2, cap2, rfl, hx2, hb2, hr2, _⟩
        obtain ⟨b', o', rfl, hlt, hby⟩ := hx2.sl.mem (by omega)
        have hz : ∃ z, xs.getD 4 0 = z := ⟨_, rfl⟩
        obtain ⟨z, hz⟩ := hz
        have d0 : v2.cell? ⟨b', o', none⟩ = some (.int .u8 z) := by
          have := hby.at0 0 (by rw [hx2.sl.hlen]; omega)
          rwa [Nat.add_zero, getD_cut (by omega), Nat.add_zero, hz] at this
        have HZ := Lib.hid hz
        have HB2 := Lib.hid hb2
        have HR2 := Lib.hid (HR'.out.trans hr2)
        clear hx2 hb2 hr2 hby hz
        by_cases hz1 : z = 1
        · have hzz : (z != 1) = false := by simpa using hz1
          go_wp2
          first | go_end0 | refine bodyPost_ret (results_none rfl _ _ _) rfl ?_
          refine ⟨HR2.out, .inr ⟨fun c => ?_, rfl, by omega, HB2.out⟩⟩
          unfold Im.dA
          rw [HL.out, if_neg h4, if_pos HLE.out, if_neg h5, HZ.out, if_pos hz1]
        · have hzz : (z != 1) = true := by simpa using hz1
          go_wp2
          refine ⟨rfl, HR2.out, .inl ⟨2, 4, rfl, by decide, fun c => ?_⟩⟩
          unfold Im.dA
          rw [HL.out, if_neg h4, if_pos HLE.out, if_neg h5, HZ.out, if_neg hz1]
    · have HLE := Lib.hid hl
      have hne := letters_ne hB.out hl
      have HNE := Lib.hid hne
      clear hl hne
      go_enter Tryd.func44, Tryd.ntmps44
      go_wp2_with fail
      refine HP.out.mono ?_
      rintro e v ⟨A', cap', rfl, hx', hb', hr', _⟩
      have hcv := by_str hx'.sl
      rw [drop0] at hcv
      have hne := HNE.out
      have hS : ∃ S, strOfNums (xs.take 4) = S := ⟨_, rfl⟩
      obtain ⟨S, hS⟩ := hS
      rw [hS] at hne hcv
      have hbe : (S.toList == [82, 66, 54, 52]) = false := by
        rw [Bool.eq_false_iff]
        intro h
        have h' : S.toList = [82, 66, 54, 52] := by simpa using h
        rw [ByteArray.toList_eq] at h'
        exact hne (WideShapes.bytes_inj (a := S) (b := ⟨#[82, 66, 54, 52]⟩) h')
      clear hne
      have HR' := Lib.hid hr'
      clear hx' hb' hr' hS
      go_wp2
      refine ⟨rfl, HR'.out, .inl ⟨2, 0, rfl, by decide, fun c => ?_⟩⟩
      unfold Im.dA
      rw [HL.out, if_neg h4, if_neg HLE.out]

set_option maxRecDepth 20000 in
set_option maxHeartbeats 800000 in
theorem clone_any (A : Option Addr) (n cap : Nat) (xs : List Int) (w : World) (hx : BySl w A n cap xs) (hA : A ≠ none) (hn : n ≤ 100000) :
    Calls Tryd.prog 46 #[.slice A n cap] w fun e w' => ∃ A' cap', e = .returned (.slice A' n cap') ∧ w'.ownsRow w.heap.size 5 1 (.slice A' n cap') n (xs.map (Value.int .u8)) ∧ Below w.heap.size w w' := by
  obtain ⟨i0, hi0, hz0, hz1, hz2⟩ := info_parts u8_info
  obtain ⟨p, rfl⟩ := Option.ne_none_iff_exists'.1 hA
  have HX := Lib.hid hx
  clear hx hA
  have hnil : ∀ W : World, (binOp .eql 22 (.slice (some p) n cap) (.slice none 0 0)).run Tryd.prog W = .ok (.bool false) W := fun W => by
    simp only [binOp]
    simp [Op.equal, Op.maxDepth, Lib.run_equalIn_slice_nil W 9999 22 5 (some p) n cap 0 0 Tryd.underlying22]
  go_enter Tryd.func46, Tryd.ntmps46
  go_wp2_with (
    at_builtin
    refine wpList_ap (w := w.alloc (.cells #[] 5)) rfl (.tmp 5) (.tmp 6) _ rfl w.heap.size 5 i0 _ 1 Tryd.underlying22 hi0 hz0 hz1 hz2 rfl (.slice (some ⟨w.heap.size, 0, none⟩) 0 0) 0 [] rfl
      (own_new w) (some p) n cap (xs.map (Value.int .u8)) rfl (HX.out.sl.below (Below.box _ _)) HX.out.hnone (one_cell xs) (by simp only [maxLen]; omega) (by omega) (by simp) n (xs.map (Value.int .u8)) (by omega) rfl ?_
    intro A' cap' v2 hc1 hc2 hown hsl hb2)
  go_ret
  exact ⟨A', cap', rfl, hown, (Below.box _ _).trans hb2⟩

/-- What Get answers of what is left from a place on: short, or the instruction there. -/
theorem get_rest (b o len cap i : Nat) (xs : List Int) (w : World) (ho : Ops w) (hx : BySl w (some ⟨b, o, none⟩) len cap xs) (hi : i + 12 ≤ len) (c : Nat) (hc : len - i ≤ c) (hm : c ≤ maxLen) :
    Calls Tryd.prog 59 #[.slice (some ⟨b, o + i, none⟩) (len - i) c] w fun e w' => e = .returned (Cd.gotL (xs.drop i)) ∧ Below w.heap.size w w' := by
  obtain ⟨b1, o1, e, hlt, hby⟩ := hx.mem (by omega)
  simp only [Option.some.injEq, Addr.mk.injEq, and_true] at e
  obtain ⟨rfl, rfl⟩ := e
  have hl := hx.hlen
  refine get_list b (o + i) (len - i) c (xs.drop i) w ho (by omega) hc hm (by rw [List.length_drop]; omega) (fun j hj => ?_) (isB_of fun x hx' => Im.mem_isB hx.isB (List.mem_of_mem_drop hx'))
  rw [List.length_drop] at hj
  rw [add_at, Nat.add_assoc, List.getD_eq_getElem?_getD, List.getElem?_drop, ← List.getD_eq_getElem?_getD]
  exact hby.at0 (i + j) (by omega)
end Go.Proofs.YtjadiijjahjjoaaDoor
