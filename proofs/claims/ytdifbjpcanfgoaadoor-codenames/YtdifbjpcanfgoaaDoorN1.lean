/-
  The walk of the law on names.
-/
import Derived.Test.YtdifbjpcanfgoaaDoorW6
namespace Go.Proofs.YtdifbjpcanfgoaaDoor
open Go.RowKit

theorem idx_nm (k : Nat) (h : k < 26) : Cd.idx (Cd.nm k) = k := by
  have h' : ∀ k : Fin 26, Cd.idx (Cd.nm k) = k := by decide +kernel
  exact h' ⟨k, h⟩
theorem nm_idx (s : ByteArray) (h : Cd.idx s < 26) : Cd.nm (Cd.idx s) = s := by
  have h1 : Cd.idx s < Cd.names.length := h
  have h2 := List.findIdx_getElem (p := fun l => l == s.data.toList) (xs := Cd.names) (w := h1)
  have h3 : Cd.names[Cd.idx s] = s.data.toList := beq_iff_eq.1 h2
  unfold Cd.nm
  rw [List.getD_eq_getElem?_getD, List.getElem?_eq_getElem h1, Option.getD_some, h3]
theorem name_op (s : ByteArray) (h : Cd.opB s = true) : Cd.name (Cd.opI s) = s := by
  have hi : Cd.idx s < 26 := by simpa [Cd.opB] using h
  have he : Cd.exi (Cd.idx s) = true := by simp [Cd.exi]; omega
  rw [Cd.opI, if_pos hi, Cd.name, if_pos he, Int.toNat_natCast, nm_idx s hi]
theorem op_name (op : Int) (h : Cd.exi op = true) : Cd.opI (Cd.name op) = op ∧ Cd.opB (Cd.name op) = true := by
  obtain ⟨n, rfl, hn⟩ := Cd.exi_nat h
  rw [Cd.name, if_pos h, Int.toNat_natCast, Cd.opI, Cd.opB, idx_nm n hn]
  simp [hn]
theorem nm_some (k : Nat) (h : k < 26) : (Cd.nm k).toList.isEmpty = false := by
  have h' : ∀ k : Fin 26, (Cd.names.getD k []).isEmpty = false := by decide +kernel
  rw [ByteArray.toList_eq]
  exact h' ⟨k, h⟩

set_option maxHeartbeats 1000000 in
theorem names_walk (op : Int) (s : ByteArray) (w : World) (ho : Ops w) :
    Calls Tryd.prog 5 #[.int .i64 op, .string s] w fun e w' => e = .returned (.bool true) ∧ Below w.heap.size w w' := by
  have hp := ho.pos
  have HO := Lib.hid ho
  clear ho
  by_cases hs : 1000 < s.size
  · go_enter Tryd.func5, Tryd.ntmps5
    go_wp2_with fail
    refine (awake_any _ HO.out).mono ?_; rintro e v ⟨rfl, hb⟩
    have HB := Lib.hid hb
    clear hb
    go_wp2
    go_ret
    exact ⟨rfl, HB.out⟩
  · have hs1 : s.size ≤ 1000 := by omega
    clear hs
    go_enter Tryd.func5, Tryd.ntmps5
    go_wp2_with fail
    refine (awake_any _ HO.out).mono ?_; rintro e v1 ⟨rfl, hb1⟩
    have H1 := Lib.hid (HO.out.below hb1 hp)
    have B1 := Lib.hid hb1
    clear hb1
    go_wp2_with fail
    refine (op_any _ _ H1.out).mono ?_; rintro e v2 ⟨rfl, rfl⟩
    go_wp2_with fail
    refine (rop_any _ _).mono ?_; rintro e v2 ⟨rfl, hb2⟩
    have H2 := Lib.hid (H1.out.below hb2 H1.out.pos)
    have B2 := Lib.hid (B1.out.trans (hb2.mono B1.out.size))
    clear hb2
    go_wp2_with fail
    refine (name_any _ _ H2.out).mono ?_; rintro e v3 ⟨rfl, rfl⟩
    go_wp2_with fail
    refine (rname_any _ _).mono ?_; rintro e v3 ⟨rfl, hb3⟩
    have H3 := Lib.hid (H2.out.below hb3 H2.out.pos)
    have B3 := Lib.hid (B2.out.trans (hb3.mono B2.out.size))
    clear hb3
    go_wp2_with fail
    refine (goes_any _ _).mono ?_; rintro e v4 ⟨rfl, rfl⟩
    go_wp2_with fail
    refine (rgoes_any _ _).mono ?_; rintro e v4 ⟨rfl, rfl⟩
    go_wp2_with fail
    refine (name_any _ _ H3.out).mono ?_; rintro e v4 ⟨rfl, rfl⟩
    go_wp2_with fail
    refine (op_any _ _ H3.out).mono ?_; rintro e v4 ⟨rfl, rfl⟩
    have hEE : (Cd.opI (Cd.name op) = op ∧ Cd.opB (Cd.name op) = true) ∨ (Cd.name op).toList = [] := by
      by_cases hE : Cd.exi op = true
      · exact .inl (op_name op hE)
      · right; rw [Cd.name, if_neg hE]; exact ByteArray.toList_mk []
    by_cases hB : Cd.opB s = true
    · have hn := name_op s hB
      rcases hEE with ⟨hk1, hk2⟩ | he
      · go_wp2_with (go_at_call 14; refine (name_any _ _ H3.out).mono ?_; rintro e v4 ⟨rfl, rfl⟩)
        all_goals
          go_ret
          exact ⟨rfl, B3.out⟩
      · have he1 : (Cd.name op).toList.isEmpty = true := by rw [he]; rfl
        go_wp2_with (go_at_call 14; refine (name_any _ _ H3.out).mono ?_; rintro e v4 ⟨rfl, rfl⟩)
        all_goals
          go_ret
          exact ⟨rfl, B3.out⟩
    · have hB' : Cd.opB s = false := by simpa using hB
      rcases hEE with ⟨hk1, hk2⟩ | he
      · go_wp2_with (go_at_call 14; refine (name_any _ _ H3.out).mono ?_; rintro e v4 ⟨rfl, rfl⟩)
        all_goals
          go_ret
          exact ⟨rfl, B3.out⟩
      · have he1 : (Cd.name op).toList.isEmpty = true := by rw [he]; rfl
        go_wp2_with (go_at_call 14; refine (name_any _ _ H3.out).mono ?_; rintro e v4 ⟨rfl, rfl⟩)
        all_goals
          go_ret
          exact ⟨rfl, B3.out⟩
end Go.Proofs.YtdifbjpcanfgoaaDoor
