/-
  Contracts of layer 2's small functions: exists, mendedPart, Goes; and of the reference's: Goes, Has, in, register.
-/
import Derived.Test.YthkhadbeomkihaaDoorRows
import Derived.Test.YthkhadbeomkihaaDoorCdPl
import Derived.WalkKit
import Derived.WalkSpells
import Derived.WalkLawsBesides
import Derived.Lib.Hide
import Derived.Deep.QuietTactic
import Derived.BigQuiet
namespace Go.Proofs.YthkhadbeomkihaaDoor
set_option maxRecDepth 100000
open Go.RowKit

theorem cret_int {k : IntKind} {a b : Int} (h : a = b) : Ending.returned (.int k a) = .returned (.int k b) := by rw [h]
theorem ret_bool {a b : Bool} (h : a = b) : Ending.returned (.bool a) = .returned (.bool b) := by rw [h]

set_option maxHeartbeats 400000 in
theorem exists_any (op : Int) (w : World) :
    Calls Tryd.prog 87 #[.int .i64 op] w fun e w' => e = .returned (.bool (Cd.exi op)) ∧ w = w' := by
  go_enter Tryd.func87, Tryd.ntmps87
  go_wp2
  all_goals
    go_ret
    exact ⟨ret_bool (by simp [Cd.exi]; omega), rfl⟩

set_option maxHeartbeats 400000 in
theorem part_any (k x : Int) (w : World) :
    Calls Tryd.prog 98 #[.int .u8 k, .int .i64 x] w fun e w' => e = .returned (.int .i64 (Cd.mp k x)) ∧ w = w' := by
  go_enter Tryd.func98, Tryd.ntmps98
  go_wp2
  all_goals
    go_ret
    refine ⟨cret_int ?_, rfl⟩
    simp_all [Cd.mp]
    try omega

set_option maxHeartbeats 400000 in
theorem goes_any (op : Int) (w : World) :
    Calls Tryd.prog 67 #[.int .i64 op] w fun e w' => e = .returned (.bool (Cd.goes op)) ∧ w = w' := by
  go_enter Tryd.func67, Tryd.ntmps67
  go_wp2_with (go_at_call 87; refine (exists_any _ _).mono ?_; rintro e w' ⟨rfl, rfl⟩)
  all_goals
    go_ret
    refine ⟨ret_bool ?_, rfl⟩
    rw [Bool.eq_iff_iff]
    simp_all [Cd.goes, Cd.exi]

set_option maxHeartbeats 400000 in
theorem rgoes_any (op : Int) (w : World) :
    Calls Tryd.prog 83 #[.int .i64 op] w fun e w' => e = .returned (.bool (Cd.goes op)) ∧ w = w' := by
  go_enter Tryd.func83, Tryd.ntmps83
  go_wp2
  all_goals
    go_ret
    refine ⟨ret_bool ?_, rfl⟩
    rw [Bool.eq_iff_iff]
    simp_all [Cd.goes, Cd.exi]
    try omega

set_option maxHeartbeats 400000 in
theorem has_any (op : Int) (w : World) :
    Calls Tryd.prog 95 #[.int .i64 op] w fun e w' => e = .returned (.string (Cd.hs op)) ∧ w = w' := by
  go_enter Tryd.func95, Tryd.ntmps95
  go_wp2
  all_goals
    go_ret
    refine ⟨?_, rfl⟩
    simp_all [Cd.hs]

theorem take_snoc (s : ByteArray) (k : Nat) (h : k < s.size) : s.data.toList.take (k + 1) = s.data.toList.take k ++ [s[k]] := by
  rw [List.take_succ_eq_append_getElem (by simpa using h)]; rfl

theorem has_at (s : ByteArray) (c : Int) (k : Nat) (h : k < s.size) (hc : ((s[k].toNat : Int) == c) = true) : Cd.has s c = true := by
  unfold Cd.has
  rw [List.any_eq_true]
  exact ⟨s[k], by simp [ByteArray.getElem_eq_getElem_data], hc⟩
theorem has_step (s : ByteArray) (c : Int) (k : Nat) (h : k < s.size) (hn : ¬ Cd.has ⟨(s.data.toList.take k).toArray⟩ c = true) (hc : ((s[k].toNat : Int) == c) = false) :
    ¬ Cd.has ⟨(s.data.toList.take (k + 1)).toArray⟩ c = true := by
  rw [take_snoc s k h]
  unfold Cd.has at hn ⊢
  simp only [List.any_append, Bool.or_eq_true] at hn ⊢
  simp only [List.any_cons, List.any_nil, hc]
  simpa using hn

set_option maxHeartbeats 400000 in
theorem in_any (s : ByteArray) (c : Int) (w : World) (hs : s.size ≤ maxLen) :
    Calls Tryd.prog 97 #[.string s, .int .u8 c] w fun e w' => e = .returned (.bool (Cd.has s c)) ∧ w = w' := by
  unfold maxLen at hs
  go_enter Tryd.func97, Tryd.ntmps97
  go_wp2
  go_loop [5] (fun i => ∃ k : Nat, k ≤ s.size ∧ i = .int .i64 k ∧ ¬ (Cd.has ⟨(s.data.toList.take k).toArray⟩ c = true)) (fun i => s.size - (intOf i).toNat)
  case atStart => exact ⟨0, Nat.zero_le _, rfl, by simp [Cd.has]⟩
  case round =>
    obtain ⟨k, hk, rfl, hno⟩ := hrel
    have HN := Lib.hid hno
    clear hno
    by_cases hlt : k < s.size
    · have HT := Lib.hid (take_snoc s k hlt)
      go_wp2
      · go_ret
        refine ⟨ret_bool (Eq.symm ?_), rfl⟩
        have hc : ((s[k].toNat : Int) == c) = true := by assumption
        exact has_at s c k hlt hc
      · go_round
        case rel =>
          have hc : ((s[k].toNat : Int) == c) = false := by assumption
          exact ⟨k + 1, by omega, by go_num, has_step s c k hlt HN.out hc⟩
        case measure => simp [intOf]; omega
    · go_wp2
      go_ret
      refine ⟨ret_bool ?_, rfl⟩
      have h := HN.out
      rw [List.take_of_length_le (by simp; omega)] at h
      simpa using h

set_option maxHeartbeats 400000 in
theorem reg_any (s : ByteArray) (c n : Int) (w : World) (hs : s.size ≤ maxLen) :
    Calls Tryd.prog 96 #[.string s, .int .u8 c, .int .i64 n] w fun e w' => e = .returned (.bool (Cd.reg (Cd.has s c) n)) ∧ w = w' := by
  go_enter Tryd.func96, Tryd.ntmps96
  go_wp2_with fail
  refine (in_any _ _ _ hs).mono ?_; rintro e w' ⟨rfl, rfl⟩
  go_wp2
  all_goals
    go_ret
    refine ⟨ret_bool ?_, rfl⟩
    rw [Bool.eq_iff_iff]
    simp_all [Cd.reg]
    try omega

theorem hs_size (op : Int) : (Cd.hs op).size ≤ maxLen := by
  unfold Cd.hs maxLen
  repeat' split
  all_goals decide

def insV (op a b c m : Int) : Value := .agg #[.int .i64 op, .int .i64 a, .int .i64 b, .int .i64 c, .int .u64 m]

set_option maxHeartbeats 1000000 in
theorem wrong_any (op a b c m : Int) (w : World) :
    Calls Tryd.prog 82 #[.agg #[.int .i64 op, .int .i64 a, .int .i64 b, .int .i64 c, .int .u64 m]] w fun e w' => e = .returned (.int .i64 (Cd.rbad op a b c m)) ∧ Below w.heap.size w w' := by
  have hz := hs_size op
  go_enter Tryd.func82, Tryd.ntmps82
  go_wp2_with (first
    | (go_at_call 95; refine (has_any _ _).mono ?_; rintro e w' ⟨rfl, rfl⟩)
    | (go_at_call 96; refine (reg_any _ _ _ _ hz).mono ?_; rintro e w' ⟨rfl, rfl⟩)
    | (go_at_call 97; refine (in_any _ _ _ hz).mono ?_; rintro e w' ⟨rfl, rfl⟩))
  all_goals
    go_ret
    refine ⟨cret_int (Eq.symm ?_), (Below.refl _ _).alloc (Nat.le_refl _) _⟩
    simp_all [Cd.rbad, Cd.exi, Cd.wid]
  all_goals omega
end Go.Proofs.YthkhadbeomkihaaDoor
