/-
  Layer 2 as plain functions: which operations there are, what they have, their names; the first part of an instruction that isn't so; its bytes.
  Contracts of layer 2's small functions: exists, mendedPart, Goes; and of the reference's: Goes, Has, in, register.
  The table of operations as it lies in memory; contracts of what reads it: Name, Op, mended, fault.
  The contract of fault; the reference's Name and Op.
  The contract of Put: an instruction's bytes, in a block of their own.
  The contract of Get, and of the reference's Raw and Get.
  Get of rows of bytes, and the laws' own examples (awake).
  Slices of one-cell elements as rows of values, and append onto a row of the call's own.
  Slices of bytes that come in; an instruction's bytes, there and back.
-/
import Derived.Test.YtfhnigfghfmolaaDoorRows
import Derived.WalkKit
import Derived.WalkSpells
import Derived.WalkLawsBesides
import Derived.Lib.Hide
import Derived.Deep.QuietTactic
import Derived.BigQuiet
import Derived.StillTailTactics
import Derived.Deep.RegionHeld3
import Derived.Deep.DrawnRows
import Derived.LoopN
import Derived.Deep.AppendLies
import Derived.Maps.AppendAt
import Derived.Laws.BytesArg
import Derived.Laws.BitsAllLaws
import Derived.Below
import Derived.OwnWalk
import Derived.Laws.OwnMore
import Derived.ProofKit
import Derived.OpenShut
set_option linter.unusedSimpArgs false
set_option linter.unusedVariables false
namespace Go.Proofs.YtfhnigfghfmolaaDoor
set_option maxRecDepth 100000
namespace Cd

def exi (op : Int) : Bool := decide (0 ≤ op) && decide (op < 26)
def goes (op : Int) : Bool := exi op && (op != 0) && (op != 21) && (op != 24) && (op != 25)

/-- What A, B, C, Imm are, operation by operation: 0 nothing, 1 a register, 2 a width, 3 a number. -/
def kA : List Int := [0, 1, 1, 1, 1, 1, 1, 1, 1, 1, 1, 1, 1, 1, 1, 1, 1, 1, 1, 1, 1, 0, 1, 0, 0, 0]
def kB : List Int := [0, 0, 1, 1, 1, 1, 1, 1, 1, 1, 1, 1, 1, 1, 1, 1, 1, 1, 1, 1, 0, 0, 0, 0, 0, 0]
def kC : List Int := [0, 0, 0, 1, 1, 1, 1, 1, 1, 1, 1, 1, 1, 1, 1, 1, 1, 2, 2, 0, 0, 0, 0, 0, 0, 0]
def kI : List Int := [0, 3, 0, 0, 0, 0, 0, 0, 0, 0, 0, 0, 0, 0, 0, 0, 0, 3, 3, 3, 0, 3, 3, 3, 0, 0]
def ka (n : Nat) : Int := kA.getD n 0
def kb (n : Nat) : Int := kB.getD n 0
def kc (n : Nat) : Int := kC.getD n 0
def ki (n : Nat) : Int := kI.getD n 0

def names : List (List UInt8) := [[104, 97, 108, 116], [115, 101, 116], [99, 111, 112, 121], [97, 100, 100], [115, 117, 98], [109, 117, 108], [100, 105, 118], [114, 101, 109], [97, 110, 100], [111, 114], [120, 111, 114], [115, 104, 108], [115, 104, 114], [115, 97, 114], [115, 97, 109, 101], [108, 101, 115, 115], [98, 101, 108, 111, 119], [108, 111, 97, 100], [115, 97, 118, 101], [105, 110, 112, 117, 116], [108, 101, 110, 103, 116, 104], [106, 117, 109, 112], [98, 114, 97, 110, 99, 104], [99, 97, 108, 108], [98, 97, 99, 107], [102, 97, 105, 108]]
def nm (n : Nat) : ByteArray := ⟨(names.getD n []).toArray⟩

/-- A part, as its kind has it: another one in its place, if it isn't so. -/
def mp (k x : Int) : Int := if k = 1 then (if x < 0 then 0 else if 7 < x then 7 else x) else if k = 2 then (if x = 1 ∨ x = 2 ∨ x = 4 ∨ x = 8 then x else 1) else 0
def mi (k m : Int) : Int := if k = 0 then 0 else m

/-- The first part that isn't so: 0 the operation, 1 to 4; -1: none. -/
def bad (op a b c m : Int) : Int :=
  if exi op = true then
    if mp (ka op.toNat) a = a then
      if mp (kb op.toNat) b = b then
        if mp (kc op.toNat) c = c then
          if mi (ki op.toNat) m = m then -1 else 4
        else 3
      else 2
    else 1
  else 0
def er (k : Int) : Int := if k = 0 then 4 else if k = -1 then 0 else 5
def pl (k : Int) : Int := if k = -1 then 0 else k

/-- The reference's letters of what an operation has. -/
def hs (op : Int) : ByteArray :=
  if op = 0 ∨ op = 24 ∨ op = 25 then ⟨#[]⟩ else if op = 1 ∨ op = 22 then ⟨#[97, 105]⟩ else if op = 2 then ⟨#[97, 98]⟩ else if op = 17 ∨ op = 18 then ⟨#[97, 98, 119, 105]⟩
  else if op = 19 then ⟨#[97, 98, 105]⟩ else if op = 20 then ⟨#[97]⟩ else if op = 21 ∨ op = 23 then ⟨#[105]⟩ else ⟨#[97, 98, 99]⟩
def has (s : ByteArray) (c : Int) : Bool := s.data.toList.any fun x => (x.toNat : Int) == c
def reg (h : Bool) (n : Int) : Bool := if h = true then decide (0 ≤ n) && decide (n ≤ 7) else n == 0
def wid (c : Int) : Bool := c == 1 || c == 2 || c == 4 || c == 8
def rbad (op a b c m : Int) : Int :=
  if exi op = true then
    if reg (has (hs op) 97) a = true then
      if reg (has (hs op) 98) b = true then
        if (if has (hs op) 119 = true then wid c else reg (has (hs op) 99) c) = true then
          if (has (hs op) 105 = true ∨ m = 0) then -1 else 4
        else 3
      else 2
    else 1
  else 0

theorem mp_reg (k x : Int) (h : Bool) (hk : k = if h = true then 1 else 0) : mp k x = x ↔ reg h x = true := by
  subst hk
  cases h <;> simp [mp, reg] <;> omega
theorem mp_wid (x : Int) : mp 2 x = x ↔ wid x = true := by
  simp [mp, wid]
  omega
theorem mi_has (k m : Int) (h : Bool) (hk : k = if h = true then 3 else 0) : mi k m = m ↔ (h = true ∨ m = 0) := by
  subst hk
  cases h <;> simp [mi] <;> omega

theorem tab (n : Nat) (h : n < 26) : ka n = (if has (hs n) 97 = true then 1 else 0) ∧ kb n = (if has (hs n) 98 = true then 1 else 0) ∧
    kc n = (if has (hs n) 119 = true then 2 else if has (hs n) 99 = true then 1 else 0) ∧ ki n = (if has (hs n) 105 = true then 3 else 0) := by
  have h' : ∀ n : Fin 26, ka n = (if has (hs (n : Nat)) 97 = true then 1 else 0) ∧ kb n = (if has (hs (n : Nat)) 98 = true then 1 else 0) ∧
    kc n = (if has (hs (n : Nat)) 119 = true then 2 else if has (hs (n : Nat)) 99 = true then 1 else 0) ∧ ki n = (if has (hs (n : Nat)) 105 = true then 3 else 0) := by decide +kernel
  exact h' ⟨n, h⟩

theorem exi_nat {op : Int} (h : exi op = true) : ∃ n : Nat, op = n ∧ n < 26 := by
  simp [exi] at h
  exact ⟨op.toNat, by omega, by omega⟩

theorem rbad_bad (op a b c m : Int) : rbad op a b c m = bad op a b c m := by
  unfold rbad bad
  by_cases he : exi op = true
  · obtain ⟨n, rfl, hn⟩ := exi_nat he
    obtain ⟨h1, h2, h3, h4⟩ := tab n hn
    rw [if_pos he, if_pos he, Int.toNat_natCast]
    have e1 := mp_reg (ka n) a _ h1
    have e2 := mp_reg (kb n) b _ h2
    have e4 := mi_has (ki n) m _ h4
    have e3 : mp (kc n) c = c ↔ (if has (hs n) 119 = true then wid c else reg (has (hs n) 99) c) = true := by
      by_cases hw : has (hs n) 119 = true
      · rw [if_pos hw] at h3 ⊢
        rw [h3]; exact mp_wid c
      · rw [if_neg hw] at h3 ⊢
        exact mp_reg (kc n) c _ h3
    simp only [e1, e2, e3, e4]
  · rw [if_neg he, if_neg he]

theorem bad_cases (op a b c m : Int) : bad op a b c m = -1 ∨ bad op a b c m = 0 ∨ bad op a b c m = 1 ∨ bad op a b c m = 2 ∨ bad op a b c m = 3 ∨ bad op a b c m = 4 := by
  unfold bad
  repeat' split
  all_goals simp

/-- What an instruction that is so has in its parts: bytes. -/
theorem bad_none {op a b c m : Int} (h : bad op a b c m = -1) : 0 ≤ op ∧ op < 26 ∧ 0 ≤ a ∧ a ≤ 7 ∧ 0 ≤ b ∧ b ≤ 7 ∧ 0 ≤ c ∧ c ≤ 8 := by
  unfold bad at h
  split at h
  · rename_i he
    obtain ⟨n, rfl, hn⟩ := exi_nat he
    rw [Int.toNat_natCast] at h
    have h' : ∀ n : Fin 26, (ka n = 0 ∨ ka n = 1) ∧ (kb n = 0 ∨ kb n = 1) ∧ (kc n = 0 ∨ kc n = 1 ∨ kc n = 2) := by decide +kernel
    obtain ⟨t1, t2, t3⟩ := h' ⟨n, hn⟩
    split at h
    · rename_i e1
      split at h
      · rename_i e2
        split at h
        · rename_i e3
          refine ⟨by omega, by omega, ?_⟩
          have r1 : 0 ≤ a ∧ a ≤ 7 := by rcases t1 with t | t <;> rw [show ka n = _ from t] at e1 <;> simp [mp] at e1 <;> omega
          have r2 : 0 ≤ b ∧ b ≤ 7 := by rcases t2 with t | t <;> rw [show kb n = _ from t] at e2 <;> simp [mp] at e2 <;> omega
          have r3 : 0 ≤ c ∧ c ≤ 8 := by
            rcases t3 with t | t | t <;> rw [show kc n = _ from t] at e3 <;> simp [mp] at e3
            · omega
            · omega
            · omega
          omega
        · omega
      · omega
    · omega
  · omega
end Cd
end Go.Proofs.YtfhnigfghfmolaaDoor
namespace Go.Proofs.YtfhnigfghfmolaaDoor
set_option maxRecDepth 100000
open Go.RowKit

theorem cret_int {k : IntKind} {a b : Int} (h : a = b) : Ending.returned (.int k a) = .returned (.int k b) := by rw [h]
theorem ret_bool {a b : Bool} (h : a = b) : Ending.returned (.bool a) = .returned (.bool b) := by rw [h]

set_option maxHeartbeats 400000 in
theorem exists_any (op : Int) (w : World) :
    Calls Tryd.prog 87 #[.int .i64 op] w fun e w' => e = .returned (.bool (Cd.exi op)) ∧ w = w' := by
  go_enter Tryd.func87, Tryd.ntmps87
  go_wp2
  all_goals
    go_ret
    exact ⟨ret_bool (by simp [Cd.exi]; omega), rfl⟩

set_option maxHeartbeats 400000 in
theorem part_any (k x : Int) (w : World) :
    Calls Tryd.prog 98 #[.int .u8 k, .int .i64 x] w fun e w' => e = .returned (.int .i64 (Cd.mp k x)) ∧ w = w' := by
  go_enter Tryd.func98, Tryd.ntmps98
  go_wp2
  all_goals
    go_ret
    refine ⟨cret_int ?_, rfl⟩
    simp_all [Cd.mp]
    try omega

set_option maxHeartbeats 400000 in
theorem goes_any (op : Int) (w : World) :
    Calls Tryd.prog 67 #[.int .i64 op] w fun e w' => e = .returned (.bool (Cd.goes op)) ∧ w = w' := by
  go_enter Tryd.func67, Tryd.ntmps67
  go_wp2_with (go_at_call 87; refine (exists_any _ _).mono ?_; rintro e w' ⟨rfl, rfl⟩)
  all_goals
    go_ret
    refine ⟨ret_bool ?_, rfl⟩
    rw [Bool.eq_iff_iff]
    simp_all [Cd.goes, Cd.exi]

set_option maxHeartbeats 400000 in
theorem rgoes_any (op : Int) (w : World) :
    Calls Tryd.prog 83 #[.int .i64 op] w fun e w' => e = .returned (.bool (Cd.goes op)) ∧ w = w' := by
  go_enter Tryd.func83, Tryd.ntmps83
  go_wp2
  all_goals
    go_ret
    refine ⟨ret_bool ?_, rfl⟩
    rw [Bool.eq_iff_iff]
    simp_all [Cd.goes, Cd.exi]
    try omega

set_option maxHeartbeats 400000 in
theorem has_any (op : Int) (w : World) :
    Calls Tryd.prog 95 #[.int .i64 op] w fun e w' => e = .returned (.string (Cd.hs op)) ∧ w = w' := by
  go_enter Tryd.func95, Tryd.ntmps95
  go_wp2
  all_goals
    go_ret
    refine ⟨?_, rfl⟩
    simp_all [Cd.hs]

theorem take_snoc (s : ByteArray) (k : Nat) (h : k < s.size) : s.data.toList.take (k + 1) = s.data.toList.take k ++ [s[k]] := by
  rw [List.take_succ_eq_append_getElem (by simpa using h)]; rfl

theorem has_at (s : ByteArray) (c : Int) (k : Nat) (h : k < s.size) (hc : ((s[k].toNat : Int) == c) = true) : Cd.has s c = true := by
  unfold Cd.has
  rw [List.any_eq_true]
  exact ⟨s[k], by simp [ByteArray.getElem_eq_getElem_data], hc⟩
theorem has_step (s : ByteArray) (c : Int) (k : Nat) (h : k < s.size) (hn : ¬ Cd.has ⟨(s.data.toList.take k).toArray⟩ c = true) (hc : ((s[k].toNat : Int) == c) = false) :
    ¬ Cd.has ⟨(s.data.toList.take (k + 1)).toArray⟩ c = true := by
  rw [take_snoc s k h]
  unfold Cd.has at hn ⊢
  simp only [List.any_append, Bool.or_eq_true] at hn ⊢
  simp only [List.any_cons, List.any_nil, hc]
  simpa using hn

set_option maxHeartbeats 400000 in
theorem in_any (s : ByteArray) (c : Int) (w : World) (hs : s.size ≤ maxLen) :
    Calls Tryd.prog 97 #[.string s, .int .u8 c] w fun e w' => e = .returned (.bool (Cd.has s c)) ∧ w = w' := by
  unfold maxLen at hs
  go_enter Tryd.func97, Tryd.ntmps97
  go_wp2
  go_loop [5] (fun i => ∃ k : Nat, k ≤ s.size ∧ i = .int .i64 k ∧ ¬ (Cd.has ⟨(s.data.toList.take k).toArray⟩ c = true)) (fun i => s.size - (intOf i).toNat)
  case atStart => exact ⟨0, Nat.zero_le _, rfl, by simp [Cd.has]⟩
  case round =>
    obtain ⟨k, hk, rfl, hno⟩ := hrel
    have HN := Lib.hid hno
    clear hno
    by_cases hlt : k < s.size
    · have HT := Lib.hid (take_snoc s k hlt)
      go_wp2
      · go_ret
        refine ⟨ret_bool (Eq.symm ?_), rfl⟩
        have hc : ((s[k].toNat : Int) == c) = true := by assumption
        exact has_at s c k hlt hc
      · go_round
        case rel =>
          have hc : ((s[k].toNat : Int) == c) = false := by assumption
          exact ⟨k + 1, by omega, by go_num, has_step s c k hlt HN.out hc⟩
        case measure => simp [intOf]; omega
    · go_wp2
      go_ret
      refine ⟨ret_bool ?_, rfl⟩
      have h := HN.out
      rw [List.take_of_length_le (by simp; omega)] at h
      simpa using h

set_option maxHeartbeats 400000 in
theorem reg_any (s : ByteArray) (c n : Int) (w : World) (hs : s.size ≤ maxLen) :
    Calls Tryd.prog 96 #[.string s, .int .u8 c, .int .i64 n] w fun e w' => e = .returned (.bool (Cd.reg (Cd.has s c) n)) ∧ w = w' := by
  go_enter Tryd.func96, Tryd.ntmps96
  go_wp2_with fail
  refine (in_any _ _ _ hs).mono ?_; rintro e w' ⟨rfl, rfl⟩
  go_wp2
  all_goals
    go_ret
    refine ⟨ret_bool ?_, rfl⟩
    rw [Bool.eq_iff_iff]
    simp_all [Cd.reg]
    try omega

theorem hs_size (op : Int) : (Cd.hs op).size ≤ maxLen := by
  unfold Cd.hs maxLen
  repeat' split
  all_goals decide

def insV (op a b c m : Int) : Value := .agg #[.int .i64 op, .int .i64 a, .int .i64 b, .int .i64 c, .int .u64 m]

set_option maxHeartbeats 1000000 in
theorem wrong_any (op a b c m : Int) (w : World) :
    Calls Tryd.prog 82 #[.agg #[.int .i64 op, .int .i64 a, .int .i64 b, .int .i64 c, .int .u64 m]] w fun e w' => e = .returned (.int .i64 (Cd.rbad op a b c m)) ∧ Below w.heap.size w w' := by
  have hz := hs_size op
  go_enter Tryd.func82, Tryd.ntmps82
  go_wp2_with (first
    | (go_at_call 95; refine (has_any _ _).mono ?_; rintro e w' ⟨rfl, rfl⟩)
    | (go_at_call 96; refine (reg_any _ _ _ _ hz).mono ?_; rintro e w' ⟨rfl, rfl⟩)
    | (go_at_call 97; refine (in_any _ _ _ hz).mono ?_; rintro e w' ⟨rfl, rfl⟩))
  all_goals
    go_ret
    refine ⟨cret_int (Eq.symm ?_), (Below.refl _ _).alloc (Nat.le_refl _) _⟩
    simp_all [Cd.rbad, Cd.exi, Cd.wid]
  all_goals omega
end Go.Proofs.YtfhnigfghfmolaaDoor
namespace Go.Proofs.YtfhnigfghfmolaaDoor
set_option maxRecDepth 100000
open Go.RowKit

/-- The table of operations lies in the first variable's block: five cells an operation. -/
def Ops (w : World) : Prop := ∀ i, i < 26 → w.cell? ⟨0, i * 5, none⟩ = some (.string (Cd.nm i)) ∧ w.cell? ⟨0, i * 5 + 1, none⟩ = some (.int .u8 (Cd.ka i)) ∧
  w.cell? ⟨0, i * 5 + 2, none⟩ = some (.int .u8 (Cd.kb i)) ∧ w.cell? ⟨0, i * 5 + 3, none⟩ = some (.int .u8 (Cd.kc i)) ∧ w.cell? ⟨0, i * 5 + 4, none⟩ = some (.int .u8 (Cd.ki i))
theorem Ops.pos {w : World} (h : Ops w) : 0 < w.heap.size := by
  rcases Nat.lt_or_ge 0 w.heap.size with h0 | h0
  · exact h0
  · have := (h 0 (by omega)).1
    simp [World.cell?, Array.getElem?_eq_none h0] at this
theorem Ops.below {w w' : World} {n : Nat} (h : Ops w) (hb : Below n w w') (hn : 0 < n) : Ops w' := fun i hi => by
  obtain ⟨h0, h1, h2, h3, h4⟩ := h i hi
  exact ⟨(hb.cell (p := ⟨0, i * 5, none⟩) hn).trans h0, (hb.cell (p := ⟨0, i * 5 + 1, none⟩) hn).trans h1, (hb.cell (p := ⟨0, i * 5 + 2, none⟩) hn).trans h2,
    (hb.cell (p := ⟨0, i * 5 + 3, none⟩) hn).trans h3, (hb.cell (p := ⟨0, i * 5 + 4, none⟩) hn).trans h4⟩

theorem ret_str {a b : ByteArray} (h : a = b) : Ending.returned (.string a) = .returned (.string b) := by rw [h]

/-- The name of any number. -/
def Cd.name (op : Int) : ByteArray := if Cd.exi op = true then Cd.nm op.toNat else ⟨#[]⟩

/-- The place of a name among the names; 26, if it is none. -/
def Cd.idx (s : ByteArray) : Nat := Cd.names.findIdx fun l => l == s.data.toList
def Cd.opB (s : ByteArray) : Bool := decide (Cd.idx s < 26)
def Cd.opI (s : ByteArray) : Int := if Cd.idx s < 26 then Cd.idx s else 0

theorem idx_lt {s : ByteArray} {k : Nat} (hk : k < 26) (he : Cd.nm k = s) (hn : ∀ j, j < k → Cd.nm j ≠ s) : Cd.idx s = k := by
  have hl : Cd.names.length = 26 := rfl
  have hd : ∀ j, (h : j < Cd.names.length) → (Cd.names[j] == s.data.toList) = decide (Cd.nm j = s) := fun j h => by
    rw [Bool.eq_iff_iff, beq_iff_eq, decide_eq_true_iff]
    unfold Cd.nm
    rw [List.getD_eq_getElem?_getD, List.getElem?_eq_getElem h, Option.getD_some]
    constructor
    · intro e; rw [e]
    · intro e; rw [← e]
  unfold Cd.idx
  rw [List.findIdx_eq (by omega)]
  refine ⟨by rw [hd k (by omega)]; simpa using he, fun j hj => ?_⟩
  rw [hd j (by omega)]
  simpa using hn j hj
theorem idx_ge {s : ByteArray} (hn : ∀ j, j < 26 → Cd.nm j ≠ s) : ¬ Cd.idx s < 26 := by
  intro h
  have hl : Cd.names.length = 26 := rfl
  have h1 : Cd.idx s < Cd.names.length := by omega
  have h2 := List.findIdx_getElem (p := fun l => l == s.data.toList) (xs := Cd.names) (w := h1)
  refine hn _ h ?_
  have h3 : Cd.names[Cd.idx s] = s.data.toList := beq_iff_eq.1 h2
  unfold Cd.nm
  rw [List.getD_eq_getElem?_getD, List.getElem?_eq_getElem h1, Option.getD_some, h3]
theorem bytes_of_beq {a b : ByteArray} (h : (a.toList == b.toList) = true) : a = b := by
  have h' : a.toList = b.toList := by simpa using h
  rw [ByteArray.toList_eq, ByteArray.toList_eq] at h'
  exact WideShapes.bytes_inj h'
theorem bytes_of_bne {a b : ByteArray} (h : (a.toList == b.toList) = false) : a ≠ b := by
  intro e
  subst e
  simp at h
/-- A region whose last operations stand in one order, the others only reading: behind the draw. -/
theorem still_tail {P : Program} {id : Nat} {Q : Exit → Act → World → Prop} {a : Act} {w : World} {l : List Oper} (n : Nat) (hm : P.follows .mixedOrders = true) (hB : Region.lexTailB .any l.toArray n = true)
    (h : wpStill P l.toArray w.drew (fun a' => wpList P l.toArray Q (l.drop n) a' w.drew) (l.take n) a) : (Code.region id l.toArray true).wp P Q a w := wp_region_still_tail n hm hB h
theorem ret_op {a : Int} {b : Bool} {c : Int} {d : Bool} (h : a = c) (k : b = d) : Ending.returned (.tuple #[.int .i64 a, .bool b]) = .returned (.tuple #[.int .i64 c, .bool d]) := by rw [h, k]

set_option maxHeartbeats 400000 in
set_option maxRecDepth 20000 in
theorem mended_any (n : Nat) (a b c m : Int) (w : World) (hn : n < 26) (ho : Ops w) :
    Calls Tryd.prog 88 #[.agg #[.int .i64 n, .int .i64 a, .int .i64 b, .int .i64 c, .int .u64 m]] w fun e w' =>
      e = .returned (.agg #[.int .i64 n, .int .i64 (Cd.mp (Cd.ka n) a), .int .i64 (Cd.mp (Cd.kb n) b), .int .i64 (Cd.mp (Cd.kc n) c), .int .u64 (Cd.mi (Cd.ki n) m)]) ∧ Below w.heap.size w w' := by
  have hp := ho.pos
  obtain ⟨h0, h1, h2, h3, h4⟩ := ho n hn
  have P : ∀ (k x : Int) (W : World), Calls Tryd.prog 98 #[.int .u8 k, .int .i64 x] W fun e w' => e = .returned (.int .i64 (Cd.mp k x)) ∧ w' = W := fun k x W => (part_any k x W).mono fun _ _ h => ⟨h.1, h.2.symm⟩
  have HP := Lib.hid P
  clear P
  go_enter Tryd.func88, Tryd.ntmps88
  go_wp2
  refine still_tail 16 (by kernel_rfl) (by kernel_rfl) ?_
  simp only [List.take_succ_cons, List.take_zero, List.drop_succ_cons, List.drop_zero]
  repeat still_step
  still_call (HP.out _ _ _)
  repeat still_step
  still_call (HP.out _ _ _)
  repeat still_step
  still_call (HP.out _ _ _)
  repeat still_step
  refine wpStill_nil ?_
  go_wp2
  · refine bodyPost_ret (v := .agg #[.int .i64 n, .int .i64 (Cd.mp (Cd.ka n) a), .int .i64 (Cd.mp (Cd.kb n) b), .int .i64 (Cd.mp (Cd.kc n) c), .int .u64 0]) (by simp [results, Tryd.results88, go_sem]) rfl ⟨?_, ?_⟩
    · have hz : (Cd.ki n == 0) = true := by assumption
      rw [show Cd.mi (Cd.ki n) m = 0 from by rw [Cd.mi, if_pos (by simpa using hz)]]
    · exact ((((Below.refl _ _).alloc (Nat.le_refl _) _).alloc (by simp) _).alloc (by simp; omega) _).drew
  · refine bodyPost_ret (v := .agg #[.int .i64 n, .int .i64 (Cd.mp (Cd.ka n) a), .int .i64 (Cd.mp (Cd.kb n) b), .int .i64 (Cd.mp (Cd.kc n) c), .int .u64 m]) (by simp [results, Tryd.results88, go_sem]) rfl ⟨?_, ?_⟩
    · have hz : (Cd.ki n == 0) = false := by assumption
      rw [show Cd.mi (Cd.ki n) m = m from by rw [Cd.mi, if_neg (by simpa using hz)]]
    · exact ((((Below.refl _ _).alloc (Nat.le_refl _) _).alloc (by simp) _).alloc (by simp; omega) _).drew
end Go.Proofs.YtfhnigfghfmolaaDoor
namespace Go.Proofs.YtfhnigfghfmolaaDoor
set_option maxRecDepth 100000
open Go.RowKit

theorem ret_two {a b c d : Int} (h : a = c) (k : b = d) : Ending.returned (.tuple #[.int .i64 a, .int .i64 b]) = .returned (.tuple #[.int .i64 c, .int .i64 d]) := by rw [h, k]

theorem cells_below {n : Nat} {w w' : World} (hb : Below n w w') {b o : Nat} {v : Value} (h : w.cell? ⟨b, o, none⟩ = some v) (hn : b < n) : w'.cell? ⟨b, o, none⟩ = some v :=
  (hb.cell (p := ⟨b, o, none⟩) hn).trans h

set_option maxHeartbeats 400000 in
theorem fault_no (op a b c m : Int) (w : World) (he : Cd.exi op = false) :
    Calls Tryd.prog 65 #[.agg #[.int .i64 op, .int .i64 a, .int .i64 b, .int .i64 c, .int .u64 m]] w fun e w' =>
      e = .returned (.tuple #[.int .i64 4, .int .i64 0]) ∧ Below w.heap.size w w' := by
  go_enter Tryd.func65, Tryd.ntmps65
  go_wp2_with (go_at_call 87; refine (exists_any _ _).mono ?_; rintro e w' ⟨rfl, rfl⟩)
  go_ret2
  exact ⟨rfl, (Below.refl _ _).alloc (Nat.le_refl _) _⟩

/-- What fault tells of parts and parts that are so. -/
def Cd.cmp (a b c m a' b' c' m' : Int) : Int := if a' = a then if b' = b then if c' = c then if m' = m then -1 else 4 else 3 else 2 else 1

set_option maxHeartbeats 1000000 in
theorem fault_yes (n : Nat) (a b c m a' b' c' m' : Int) (w : World) (hn : n < 26) (ho : Ops w) (he : Cd.exi n = true)
    (ha : Cd.mp (Cd.ka n) a = a') (hb : Cd.mp (Cd.kb n) b = b') (hc : Cd.mp (Cd.kc n) c = c') (hm : Cd.mi (Cd.ki n) m = m') :
    Calls Tryd.prog 65 #[.agg #[.int .i64 n, .int .i64 a, .int .i64 b, .int .i64 c, .int .u64 m]] w fun e w' =>
      e = .returned (.tuple #[.int .i64 (Cd.er (Cd.cmp a b c m a' b' c' m')), .int .i64 (Cd.pl (Cd.cmp a b c m a' b' c' m'))]) ∧ Below w.heap.size w w' := by
  have HM : ∀ W, Ops W → Calls Tryd.prog 88 #[.agg #[.int .i64 n, .int .i64 a, .int .i64 b, .int .i64 c, .int .u64 m]] W fun e w' =>
      e = .returned (.agg #[.int .i64 n, .int .i64 a', .int .i64 b', .int .i64 c', .int .u64 m']) ∧ Below W.heap.size W w' := fun W hW => by
    have := mended_any n a b c m W hn hW
    rw [ha, hb, hc, hm] at this
    exact this
  have HH := Lib.hid HM
  clear HM ha hb hc hm
  have hp := ho.pos
  have hob := ho.below ((Below.refl w.heap.size w).alloc (Nat.le_refl _) (.cells #[.int .i64 n, .int .i64 a, .int .i64 b, .int .i64 c, .int .u64 m] 59)) hp
  have HO := Lib.hid hob
  clear ho hob
  go_enter Tryd.func65, Tryd.ntmps65
  go_wp2_with (go_at_call 87; refine (exists_any _ _).mono ?_; rintro e w' ⟨rfl, rfl⟩)
  refine (HH.out _ HO.out).mono ?_
  rintro e v ⟨rfl, hbv⟩
  have hz : w.heap.size < v.heap.size := by have := hbv.size; simp at this; omega
  have c0 : v.cell? ⟨w.heap.size, 0, none⟩ = some (.int .i64 n) := cells_below hbv (by simp) (by simp)
  have c1 : v.cell? ⟨w.heap.size, 1, none⟩ = some (.int .i64 a) := cells_below hbv (by simp) (by simp)
  have c2 : v.cell? ⟨w.heap.size, 2, none⟩ = some (.int .i64 b) := cells_below hbv (by simp) (by simp)
  have c3 : v.cell? ⟨w.heap.size, 3, none⟩ = some (.int .i64 c) := cells_below hbv (by simp) (by simp)
  have c4 : v.cell? ⟨w.heap.size, 4, none⟩ = some (.int .u64 m) := cells_below hbv (by simp) (by simp)
  have HB := Lib.hid hbv
  clear hbv
  go_wp2
  all_goals
    go_ret2
    refine ⟨ret_two ?_ ?_, ((((Below.refl _ _).alloc (Nat.le_refl _) _).trans (HB.out.mono (by simp))).alloc (by omega) _)⟩
  all_goals simp_all [Cd.cmp, Cd.er, Cd.pl]

theorem fault_any (op a b c m : Int) (w : World) (ho : Ops w) :
    Calls Tryd.prog 65 #[.agg #[.int .i64 op, .int .i64 a, .int .i64 b, .int .i64 c, .int .u64 m]] w fun e w' =>
      e = .returned (.tuple #[.int .i64 (Cd.er (Cd.bad op a b c m)), .int .i64 (Cd.pl (Cd.bad op a b c m))]) ∧ Below w.heap.size w w' := by
  by_cases he : Cd.exi op = true
  · obtain ⟨n, rfl, hn⟩ := Cd.exi_nat he
    have e : Cd.bad n a b c m = Cd.cmp a b c m (Cd.mp (Cd.ka n) a) (Cd.mp (Cd.kb n) b) (Cd.mp (Cd.kc n) c) (Cd.mi (Cd.ki n) m) := by rw [Cd.bad, if_pos he, Int.toNat_natCast]; rfl
    rw [e]
    exact fault_yes n a b c m _ _ _ _ w hn ho he rfl rfl rfl rfl
  · have e : Cd.bad op a b c m = 0 := by rw [Cd.bad, if_neg he]
    rw [e]
    exact fault_no op a b c m w (by simpa using he)

end Go.Proofs.YtfhnigfghfmolaaDoor
namespace Go.Proofs.YtfhnigfghfmolaaDoor
set_option maxRecDepth 100000
open Go.RowKit
attribute [local go_sem ↓] Go.wp_at_zero Go.wp_at_succ

/-- An instruction's bytes. -/
def Cd.bts (op a b c m : Int) : List Int := [op, a, b, c, m / 72057594037927936 % 256, m / 281474976710656 % 256, m / 1099511627776 % 256, m / 4294967296 % 256, m / 16777216 % 256, m / 65536 % 256, m / 256 % 256, m % 256]
/-- A block is just these cells, none of them frozen. -/
def Blk (w : World) (g : Nat) (t : TypeId) (cs : Array Value) : Prop := w.heap[g]? = some (.cells cs t (0, 0))

set_option maxHeartbeats 400000 in
theorem put_bad (op a b c m : Int) (w : World) (ho : Ops w) (hb : Cd.bad op a b c m ≠ -1) :
    Calls Tryd.prog 44 #[.agg #[.int .i64 op, .int .i64 a, .int .i64 b, .int .i64 c, .int .u64 m]] w fun e w' =>
      e = .returned (.tuple #[.slice none 0 0, .int .i64 (Cd.er (Cd.bad op a b c m))]) ∧ Below w.heap.size w w' := by
  have hp := ho.pos
  have HO := Lib.hid (ho.below ((Below.refl w.heap.size w).alloc (Nat.le_refl _) (.cells #[.int .i64 op, .int .i64 a, .int .i64 b, .int .i64 c, .int .u64 m] 59)) hp)
  clear ho
  have he : (Cd.er (Cd.bad op a b c m) != 0) = true := by
    rcases Cd.bad_cases op a b c m with h | h | h | h | h | h <;> rw [h] at hb ⊢ <;> simp [Cd.er] at hb ⊢
  clear hb
  go_enter Tryd.func44, Tryd.ntmps44
  go_wp2_with fail
  refine (fault_any _ _ _ _ _ _ HO.out).mono ?_
  rintro e v ⟨rfl, hbv⟩
  have HB := Lib.hid hbv
  clear hbv
  go_wp2
  go_ret2
  exact ⟨rfl, ((Below.refl _ _).alloc (Nat.le_refl _) _).trans (HB.out.mono (by simp))⟩

set_option maxHeartbeats 1000000 in
theorem put_ok (op a b c m : Int) (w : World) (ho : Ops w) (hb : Cd.bad op a b c m = -1) (m0 : 0 ≤ m) (m1 : m < 18446744073709551616) :
    Calls Tryd.prog 44 #[.agg #[.int .i64 op, .int .i64 a, .int .i64 b, .int .i64 c, .int .u64 m]] w fun e w' =>
      ∃ g, e = .returned (.tuple #[.slice (some ⟨g, 0, none⟩) 12 12, .int .i64 0]) ∧ w.heap.size ≤ g ∧ Blk w' g 5 ((Cd.bts op a b c m).map (Value.int .u8)).toArray ∧ Below w.heap.size w w' := by
  have hp := ho.pos
  have HO := Lib.hid (ho.below ((Below.refl w.heap.size w).alloc (Nat.le_refl _) (.cells #[.int .i64 op, .int .i64 a, .int .i64 b, .int .i64 c, .int .u64 m] 59)) hp)
  clear ho
  obtain ⟨b0, b1, b2, b3, b4, b5, b6, b7⟩ := Cd.bad_none hb
  have HF : ∀ W, Ops W → Calls Tryd.prog 65 #[.agg #[.int .i64 op, .int .i64 a, .int .i64 b, .int .i64 c, .int .u64 m]] W fun e w' =>
      e = .returned (.tuple #[.int .i64 0, .int .i64 0]) ∧ Below W.heap.size W w' := fun W hW => by
    have := fault_any op a b c m W hW
    rw [hb] at this
    exact this
  have HH := Lib.hid HF
  have HM := Lib.hid (And.intro m0 m1)
  clear HF hb m0 m1
  have hmk : ∀ w : World, (Instr.makeSlice 22 (.int .i64 12) (.int .i64 12)).run Tryd.prog w = .ok (.slice (some ⟨w.heap.size, 0, none⟩) 12 12) (w.alloc (.cells #[.int .u8 0, .int .u8 0, .int .u8 0, .int .u8 0, .int .u8 0, .int .u8 0, .int .u8 0, .int .u8 0, .int .u8 0, .int .u8 0, .int .u8 0, .int .u8 0] 5)) := fun _ => by kernel_rfl
  go_enter Tryd.func44, Tryd.ntmps44
  go_wp2_with fail
  refine (HH.out _ HO.out).mono ?_
  rintro e v ⟨rfl, hbv⟩
  have hz : w.heap.size < v.heap.size := by have := hbv.size; simp at this; omega
  have c0 : v.cell? ⟨w.heap.size, 0, none⟩ = some (.int .i64 op) := cells_below hbv (by simp) (by simp)
  have c1 : v.cell? ⟨w.heap.size, 1, none⟩ = some (.int .i64 a) := cells_below hbv (by simp) (by simp)
  have c2 : v.cell? ⟨w.heap.size, 2, none⟩ = some (.int .i64 b) := cells_below hbv (by simp) (by simp)
  have c3 : v.cell? ⟨w.heap.size, 3, none⟩ = some (.int .i64 c) := cells_below hbv (by simp) (by simp)
  have c4 : v.cell? ⟨w.heap.size, 4, none⟩ = some (.int .u64 m) := cells_below hbv (by simp) (by simp)
  have HB := Lib.hid hbv
  clear hbv
  go_wp2
  have hne : w.heap.size ≠ v.heap.size := by omega
  go_region_held3 (fun W => W.cell? ⟨w.heap.size, 0, none⟩ = some (.int .i64 op) ∧ W.cell? ⟨w.heap.size, 1, none⟩ = some (.int .i64 a) ∧ W.cell? ⟨w.heap.size, 2, none⟩ = some (.int .i64 b) ∧ W.cell? ⟨w.heap.size, 3, none⟩ = some (.int .i64 c)) (go_keep) (fail)
  go_wp2
  refine wp_loop_rounds 9 ?_
  rw [rounds_succ]; go_wp2
  rw [rounds_succ]; go_wp2
  rw [rounds_succ]; go_wp2
  rw [rounds_succ]; go_wp2
  rw [rounds_succ]; go_wp2
  rw [rounds_succ]; go_wp2
  rw [rounds_succ]; go_wp2
  rw [rounds_succ]; go_wp2
  rw [rounds_succ]; go_wp2
  go_ret2
  exact ⟨v.heap.size, rfl, by omega, heap_alloc_new v _, ((((Below.refl _ _).alloc (Nat.le_refl _) _).trans (HB.out.mono (by simp))).alloc (by omega) _).drew⟩

/-- From an address on lie these bytes. -/
def Byts (w : World) (p : Addr) (xs : List Int) : Prop := ∀ i, i < xs.length → w.cell? (p.add i) = some (.int .u8 (xs.getD i 0))
theorem add_at (b o i : Nat) : (⟨b, o, none⟩ : Addr).add i = ⟨b, o + i, none⟩ := by
  unfold Addr.add
  by_cases h : i = 0 <;> simp [h]
theorem Byts.at0 {w : World} {b o : Nat} {xs : List Int} (h : Byts w ⟨b, o, none⟩ xs) (i : Nat) (hi : i < xs.length) : w.cell? ⟨b, o + i, none⟩ = some (.int .u8 (xs.getD i 0)) := by
  rw [← add_at]; exact h i hi
theorem Byts.mk0 {w : World} {b : Nat} {xs : List Int} (h : ∀ i, i < xs.length → w.cell? ⟨b, i, none⟩ = some (.int .u8 (xs.getD i 0))) : Byts w ⟨b, 0, none⟩ xs := fun i hi => by
  rw [add_at, Nat.zero_add]; exact h i hi
theorem getD_map {xs : List Int} {i : Nat} (h : i < xs.length) : (xs.map (Value.int .u8))[i]? = some (.int .u8 (xs.getD i 0)) := by
  rw [List.getElem?_map, List.getElem?_eq_getElem h, List.getD_eq_getElem?_getD, List.getElem?_eq_getElem h]; rfl
/-- The bytes of a block whose beginning is known. -/
theorem Byts.of_front {w : World} {b : Nat} {t : TypeId} {xs : List Int} {Z : Array Value} {fr : Nat × Nat} (h : w.heap[b]? = some (.cells ((xs.map (Value.int .u8)).toArray ++ Z) t fr)) : Byts w ⟨b, 0, none⟩ xs := Byts.mk0 fun i hi => by
  rw [cell_of_row w b i _ t fr h, Array.getElem?_append_left (by simpa using hi), List.getElem?_toArray]
  exact getD_map hi
theorem Byts.of_blk {w : World} {b : Nat} {t : TypeId} {xs : List Int} (h : Blk w b t (xs.map (Value.int .u8)).toArray) : Byts w ⟨b, 0, none⟩ xs :=
  Byts.of_front (Z := #[]) (t := t) (fr := (0, 0)) (by rw [Array.append_empty]; exact h)
theorem add_block (p : Addr) (n : Nat) : (p.add n).block = p.block := by unfold Addr.add; split <;> rfl
theorem Byts.below {w w' : World} {n : Nat} {p : Addr} {xs : List Int} (h : Byts w p xs) (hb : Below n w w') (hn : p.block < n) : Byts w' p xs := fun i hi =>
  (hb.cell (by rw [add_block]; exact hn)).trans (h i hi)
theorem Byts.news {w : World} {p : Addr} {xs : List Int} (h : Byts w p xs) : ∀ j u, (xs.map (Value.int .u8))[j]? = some u → w.cell? (p.add j) = some u := fun j u hu => by
  have hj : j < xs.length := by
    rcases Nat.lt_or_ge j xs.length with h1 | h1
    · exact h1
    · rw [List.getElem?_eq_none (by simpa using h1)] at hu; cases hu
  rw [getD_map hj] at hu
  exact (h j hj).trans hu
theorem Byts.lt {w : World} {p : Addr} {xs : List Int} (h : Byts w p xs) (hl : 0 < xs.length) : p.block < w.heap.size := by
  have h0 := h 0 hl
  rcases Nat.lt_or_ge p.block w.heap.size with h1 | h1
  · exact h1
  · simp [World.cell?, add_block, Array.getElem?_eq_none h1] at h0

set_option maxHeartbeats 400000 in
theorem rput_bad (op a b c m : Int) (w : World) (hb : Cd.bad op a b c m ≠ -1) :
    Calls Tryd.prog 48 #[.agg #[.int .i64 op, .int .i64 a, .int .i64 b, .int .i64 c, .int .u64 m]] w fun e w' =>
      e = .returned (.tuple #[.slice none 0 0, .int .i64 (Cd.er (Cd.bad op a b c m))]) ∧ Below w.heap.size w w' := by
  have HW : ∀ W : World, Calls Tryd.prog 82 #[.agg #[.int .i64 op, .int .i64 a, .int .i64 b, .int .i64 c, .int .u64 m]] W fun e w' => e = .returned (.int .i64 (Cd.bad op a b c m)) ∧ Below W.heap.size W w' := fun W => by
    have := wrong_any op a b c m W
    rw [Cd.rbad_bad] at this
    exact this
  have HH := Lib.hid HW
  clear HW
  have hc := Cd.bad_cases op a b c m
  revert hb hc
  have HQ : Hid (∀ W : World, Calls Tryd.prog 82 #[.agg #[.int .i64 op, .int .i64 a, .int .i64 b, .int .i64 c, .int .u64 m]] W fun e w' => e = .returned (.int .i64 (Cd.bad op a b c m)) ∧ Below W.heap.size W w') := HH
  clear HH
  generalize Cd.bad op a b c m = k at *
  intro hb hc
  have h0 : 0 ≤ k := by omega
  by_cases hk : k = 0
  · subst hk
    go_enter Tryd.func48, Tryd.ntmps48
    go_wp2_with fail
    refine (HQ.out _).mono ?_
    rintro e v ⟨rfl, hbv⟩
    have HB := Lib.hid hbv
    clear hbv
    go_wp2
    go_ret2
    exact ⟨rfl, ((Below.refl _ _).alloc (Nat.le_refl _) _).trans (HB.out.mono (by simp))⟩
  · have hk1 : (k == 0) = false := by simpa using hk
    have hk2 : 0 < k := by omega
    have he : Cd.er k = 5 := by rw [Cd.er, if_neg hk, if_neg (by omega)]
    rw [he]
    clear hc hb hk he
    go_enter Tryd.func48, Tryd.ntmps48
    go_wp2_with fail
    refine (HQ.out _).mono ?_
    rintro e v ⟨rfl, hbv⟩
    have HB := Lib.hid hbv
    clear hbv
    go_wp2
    go_ret2
    exact ⟨rfl, ((Below.refl _ _).alloc (Nat.le_refl _) _).trans (HB.out.mono (by simp))⟩

theorem heap_new_at (W : World) (o : Obj) (g : Nat) (h : W.heap.size = g) : (W.alloc o).drew.heap[g]? = some o := by
  subst h
  exact heap_alloc_new W o

theorem u8_info : (Tryd.prog.info? 5).map (fun i => (i.zero, i.size, i.bytes)) = some (some (.int .u8 0), 1, 1) := by kernel_rfl

set_option maxHeartbeats 1000000 in
theorem rput_ok (op a b c m : Int) (w : World) (hb : Cd.bad op a b c m = -1) (m0 : 0 ≤ m) (m1 : m < 18446744073709551616) :
    Calls Tryd.prog 48 #[.agg #[.int .i64 op, .int .i64 a, .int .i64 b, .int .i64 c, .int .u64 m]] w fun e w' =>
      ∃ g cap, e = .returned (.tuple #[.slice (some ⟨g, 0, none⟩) 12 cap, .int .i64 0]) ∧ Byts w' ⟨g, 0, none⟩ (Cd.bts op a b c m) ∧ Below w.heap.size w w' := by
  obtain ⟨b0, b1, b2, b3, b4, b5, b6, b7⟩ := Cd.bad_none hb
  have HW : ∀ W : World, Calls Tryd.prog 82 #[.agg #[.int .i64 op, .int .i64 a, .int .i64 b, .int .i64 c, .int .u64 m]] W fun e w' => e = .returned (.int .i64 (-1)) ∧ Below W.heap.size W w' := fun W => by
    have := wrong_any op a b c m W
    rw [Cd.rbad_bad, hb] at this
    exact this
  have HH := Lib.hid HW
  have HM := Lib.hid (And.intro m0 m1)
  clear HW hb
  have hmk : ∀ w : World, (Instr.makeSlice 22 (.int .i64 8) (.int .i64 8)).run Tryd.prog w = .ok (.slice (some ⟨w.heap.size, 0, none⟩) 8 8) (w.alloc (.cells #[.int .u8 0, .int .u8 0, .int .u8 0, .int .u8 0, .int .u8 0, .int .u8 0, .int .u8 0, .int .u8 0] 5)) := fun _ => by kernel_rfl
  go_enter Tryd.func48, Tryd.ntmps48
  go_wp2_with fail
  refine (HH.out _).mono ?_
  rintro e v ⟨rfl, hbv⟩
  have hz : w.heap.size < v.heap.size := by have := hbv.size; simp at this; omega
  have c0 : v.cell? ⟨w.heap.size, 0, none⟩ = some (.int .i64 op) := cells_below hbv (by simp) (by simp)
  have c1 : v.cell? ⟨w.heap.size, 1, none⟩ = some (.int .i64 a) := cells_below hbv (by simp) (by simp)
  have c2 : v.cell? ⟨w.heap.size, 2, none⟩ = some (.int .i64 b) := cells_below hbv (by simp) (by simp)
  have c3 : v.cell? ⟨w.heap.size, 3, none⟩ = some (.int .i64 c) := cells_below hbv (by simp) (by simp)
  have c4 : v.cell? ⟨w.heap.size, 4, none⟩ = some (.int .u64 m) := cells_below hbv (by simp) (by simp)
  have HB := Lib.hid hbv
  clear hbv
  go_wp2
  refine wp_loop_rounds 9 ?_
  rw [rounds_succ]; go_wp2
  rw [rounds_succ]; go_wp2
  rw [rounds_succ]; go_wp2
  rw [rounds_succ]; go_wp2
  rw [rounds_succ]; go_wp2
  rw [rounds_succ]; go_wp2
  rw [rounds_succ]; go_wp2
  rw [rounds_succ]; go_wp2
  rw [rounds_succ]; go_wp2_with fail
  go_ret2
  refine ⟨_, _, rfl, Byts.of_front (t := 5) (fr := (0, 0)) (Z := Builtin.zeroCells #[Value.int IntKind.u8 0] ((Question.appendCap 12 4 5).cut (v.tape v.drawn (Question.appendCap 12 4 5)) - 12)) ?_, ?_⟩
  · have e : Cd.bts op a b c m = [op, a, b, c, m / 256 / 256 / 256 / 256 / 256 / 256 / 256 % 256, m / 256 / 256 / 256 / 256 / 256 / 256 % 256, m / 256 / 256 / 256 / 256 / 256 % 256, m / 256 / 256 / 256 / 256 % 256, m / 256 / 256 / 256 % 256, m / 256 / 256 % 256, m / 256 % 256, m % 256] := by
      unfold Cd.bts
      simp only [List.cons.injEq, and_true, true_and]
      omega
    rw [e]
    refine (heap_new_at _ _ _ (by simp)).trans ?_
    rw [← Array.append_assoc]
    rfl
  · exact ((((((Below.refl _ _).alloc (Nat.le_refl _) _).trans (HB.out.mono (by simp))).alloc (by omega) _).alloc (by simp; omega) _).alloc (by simp; omega) _).drew
end Go.Proofs.YtfhnigfghfmolaaDoor
namespace Go.Proofs.YtfhnigfghfmolaaDoor
set_option maxRecDepth 100000
open Go.RowKit
attribute [local go_sem ↓] Go.wp_at_zero Go.wp_at_succ

theorem ret_three {v : Value} {a b c d : Int} (h : a = c) (k : b = d) : Ending.returned (.tuple #[v, .int .i64 a, .int .i64 b]) = .returned (.tuple #[v, .int .i64 c, .int .i64 d]) := by rw [h, k]

/-- What Get answers of an instruction: it, or its error and the error's place. -/
def Cd.got (op a b c m : Int) : Value := if Cd.bad op a b c m = -1 then .tuple #[.agg #[.int .i64 op, .int .i64 a, .int .i64 b, .int .i64 c, .int .u64 m], .int .i64 0, .int .i64 0]
  else .tuple #[.agg #[.int .i64 0, .int .i64 0, .int .i64 0, .int .i64 0, .int .u64 0], .int .i64 (Cd.er (Cd.bad op a b c m)), .int .i64 (Cd.pl (Cd.bad op a b c m))]

end Go.Proofs.YtfhnigfghfmolaaDoor
namespace Go.Proofs.YtfhnigfghfmolaaDoor
set_option maxRecDepth 100000
open Go.RowKit

/-- Eight bytes as a number, the highest first. -/
def Cd.val (xs : List Int) : Int := (((((((xs.getD 4 0 * 256 + xs.getD 5 0) * 256 + xs.getD 6 0) * 256 + xs.getD 7 0) * 256 + xs.getD 8 0) * 256 + xs.getD 9 0) * 256 + xs.getD 10 0) * 256 + xs.getD 11 0)
/-- What Get answers of a row of twelve bytes or more. -/
def Cd.gotL (xs : List Int) : Value := Cd.got (xs.getD 0 0) (xs.getD 1 0) (xs.getD 2 0) (xs.getD 3 0) (Cd.val xs)
/-- A row of bytes. -/
def Cd.isB (xs : List Int) : Prop := ∀ i, 0 ≤ xs.getD i 0 ∧ xs.getD i 0 ≤ 255

theorem or_byte (v z : Int) (v0 : 0 ≤ v) (v1 : v < 72057594037927936) (z0 : 0 ≤ z) (z1 : z ≤ 255) :
    bits BinOp.or IntKind.u64 (IntKind.u64.wrap (v * 256)) (IntKind.u64.wrap z) = v * 256 + z := by
  rw [IntKind.wrap_u64, IntKind.wrap_u64, Int.emod_eq_of_lt (by omega) (by omega), Int.emod_eq_of_lt (by omega) (by omega)]
  rw [u64_or _ _ (by omega) (by omega) (by omega) (by omega), Nat.or_comm, nat_join8' _ _ (by omega) (by omega)]
  omega
theorem or_byte0 (z : Int) (z0 : 0 ≤ z) (z1 : z ≤ 255) : bits BinOp.or IntKind.u64 0 (IntKind.u64.wrap z) = z := by
  have := or_byte 0 z (by omega) (by omega) z0 z1
  rw [Int.zero_mul, show IntKind.u64.wrap 0 = 0 from rfl, Int.zero_add] at this
  exact this
theorem add_byte (v z : Int) (v0 : 0 ≤ v) (v1 : v < 72057594037927936) (z0 : 0 ≤ z) (z1 : z ≤ 255) :
    IntKind.u64.wrap (IntKind.u64.wrap (v * 256) + IntKind.u64.wrap z) = v * 256 + z := by
  rw [IntKind.wrap_u64, IntKind.wrap_u64, IntKind.wrap_u64]
  omega
theorem add_byte0 (z : Int) (z0 : 0 ≤ z) (z1 : z ≤ 255) : IntKind.u64.wrap (IntKind.u64.wrap z) = z := by
  rw [IntKind.wrap_u64, IntKind.wrap_u64]
  omega

/-- What the examples' instruction comes to. -/
theorem bad_ex : Cd.bad 1 1 0 0 5 = -1 := by decide +kernel

end Go.Proofs.YtfhnigfghfmolaaDoor
namespace Go.Proofs.YtfhnigfghfmolaaDoor
set_option maxRecDepth 100000
open Go.RowKit

/-- A slice's elements: nothing is asked of the address of an empty one. -/
def Sl (w : World) (A : Option Addr) (n : Nat) (xs : List Value) : Prop :=
  xs.length = n ∧ (0 < n → ∃ b o, A = some ⟨b, o, none⟩ ∧ b < w.heap.size ∧ ∀ j u, xs[j]? = some u → w.cell? ((⟨b, o, none⟩ : Addr).add j) = some u)

theorem block_add (p : Addr) (n : Nat) : (p.add n).block = p.block := by unfold Addr.add; split <;> rfl
theorem Sl.keep {w w' : World} {A : Option Addr} {n : Nat} {xs : List Value} (h : Sl w A n xs) (hs : w.heap.size ≤ w'.heap.size) (hk : ∀ p : Addr, p.block < w.heap.size → w'.cell? p = w.cell? p) : Sl w' A n xs :=
  ⟨h.1, fun hn => by
    obtain ⟨b, o, e, hb, hc⟩ := h.2 hn
    exact ⟨b, o, e, by omega, fun j u hu => (hk _ (by rw [block_add]; exact hb)).trans (hc j u hu)⟩⟩
theorem Sl.below {w w' : World} {A : Option Addr} {n : Nat} {xs : List Value} (h : Sl w A n xs) (hb : Below w.heap.size w w') : Sl w' A n xs := h.keep hb.size fun _ hp => hb.cell hp
theorem Sl.nil {w : World} {A : Option Addr} : Sl w A 0 [] := ⟨rfl, fun h => absurd h (by omega)⟩

/-- A row of the call's own is a slice. -/
theorem Sl.of_own {w : World} {base : Nat} {e : TypeId} {v : Value} {n : Nat} {xs : List Value} (h : w.ownsRow base e 1 v n xs) :
    ∃ A cap, v = .slice A n cap ∧ n ≤ cap ∧ cap ≤ maxLen ∧ Sl w A n xs ∧ ∀ k, v.ownBlock = some k → base ≤ k := by
  have hl : xs.length = n := by have := h.1; omega
  rcases h.2 with ⟨rfl, rfl⟩ | ⟨g, cap, cur, rfl, hb, hg, hn, hm, hc, ht⟩
  · refine ⟨none, 0, rfl, Nat.le_refl _, Nat.zero_le _, ⟨hl, fun h0 => absurd h0 (by omega)⟩, fun k hk => ?_⟩
    simp [Value.ownBlock] at hk
  · refine ⟨_, cap, rfl, hn, hm, ⟨hl, fun h0 => ⟨g, 0, rfl, ?_, h.cells (g := g) rfl⟩⟩, fun k hk => ?_⟩
    · rcases Nat.lt_or_ge g w.heap.size with h1 | h1
      · exact h1
      · rw [Array.getElem?_eq_none h1] at hg; cases hg
    · simp [Value.ownBlock] at hk
      omega

section
variable {P : Program}
theorem run_ap_nil (w : World) (base : Nat) (t ty e : TypeId) (i : TypeInfo) (ht : P.underlying t = some (.slice e)) (hi : P.info? e = some i)
    (v : Value) (n : Nat) (xs : List Value) (hown : w.ownsRow base e 1 v n xs) (c : Nat) : (Builtin.append_ #[t, t] ty #[v, .slice none 0 c]).run P w = .ok v w := by
  rcases hown.2 with ⟨rfl, rfl⟩ | ⟨g, cap, cur, rfl, _, _, hnc, _⟩
  · simp [Builtin.append_, run_underlying ht, sizeOf, typeInfo, hi, Builtin.lenOf, Builtin.firstCells]
  · simp [Builtin.append_, run_underlying ht, sizeOf, typeInfo, hi, Builtin.lenOf, Builtin.firstCells, hnc, storeCells]

/-- append of a slice onto a row of the call's own: nil, empty or not. -/
theorem wpList_ap {w : World} {ops : Array Oper} {rest : List Oper} {o : Oper} {a : Act} {Q : Exit → Act → World → Prop} (hgd : o.guard = none) (s x : Operand) (t : TypeId)
    (ho : o.op = .call { callee := .builtin .append, args := #[s, x], argTypes := #[t, t] })
    (base : Nat) (e : TypeId) (i : TypeInfo) (z : Value) (bytes : Nat) (ht : P.underlying t = some (.slice e)) (hi : P.info? e = some i) (hz : i.zero = some z)
    (hsize : i.size = 1) (hby : i.bytes = bytes) (hzs : z.cells.size = 1)
    (v : Value) (n : Nat) (xs : List Value) (hs : a.eval s = v) (hown : w.ownsRow base e 1 v n xs)
    (A : Option Addr) (m c : Nat) (news : List Value) (hx : a.eval x = .slice A m c) (hr : Sl w A m news) (hA : A = none → m = 0) (h1 : ∀ u ∈ news, u.oneCell' = true)
    (h63 : n + m ≤ maxLen) (hbytes : (n + m) * bytes ≤ 140737488355328) (hbase : base ≤ w.heap.size) (N : Nat) (L : List Value) (hN : n + m = N) (hL : xs ++ news = L)
    (h : ∀ A' cap' w', N ≤ cap' → cap' ≤ maxLen → w'.ownsRow base e 1 (.slice A' N cap') N L → Sl w' A' N L → Below base w w' → wpList P ops Q rest (a.put o.dst (.slice A' N cap')) w') : wpList P ops Q (o :: rest) a w := by
  subst hN hL
  have key : ∃ v' w', (Builtin.append_ #[t, t] o.type #[v, .slice A m c]).run P w = .ok v' w' ∧ w'.ownsRow base e 1 v' (n + m) (xs ++ news) ∧ Below base w w' := by
    obtain ⟨_, _, _, _, _, _, hk⟩ := Sl.of_own hown
    rcases A with _ | ad
    · obtain rfl := hA rfl
      have hn : news = [] := List.eq_nil_of_length_eq_zero hr.1
      subst hn
      exact ⟨v, w, run_ap_nil w base t o.type e i ht hi v n xs hown c, by simpa using hown, Below.refl _ _⟩
    · have hcells : ∀ j u, news[j]? = some u → w.cell? (ad.add j) = some u := fun j u hu => by
        rcases Nat.eq_zero_or_pos m with h0 | h0
        · have hn : news = [] := List.eq_nil_of_length_eq_zero (hr.1.trans h0)
          subst hn
          simp at hu
        · obtain ⟨b, o', he, _, hc⟩ := hr.2 h0
          injection he with he
          subst he
          exact hc j u hu
      obtain ⟨v', w', hrun, h2, h3, _, _⟩ := run_append_own_at (P := P) w base t o.type e i z 1 bytes ht hi hz hsize hby hzs (by omega) v n xs hown ad m c news (by rw [hr.1]; omega) hcells h1 h63 hbytes hbase
      exact ⟨v', w', hrun, h2, (Below.refl _ _).grown h3 hbase hk⟩
  obtain ⟨v', w', hrun, h2, h3⟩ := key
  obtain ⟨A', cap', rfl, hc1, hc2, hsl, _⟩ := Sl.of_own h2
  refine wpList_plain hgd fun K hK => ?_
  unfold Oper.wp execOp
  simp only [ho, resolve, invoke, builtin, Sem.run_bind, Sem.run_pure, Result.andThen_ok, List.map_toArray, List.map_cons, List.map_nil, hs, hx, hrun]
  exact hK _ _ (h A' cap' w' hc1 hc2 h2 hsl h3)
end
end Go.Proofs.YtfhnigfghfmolaaDoor
namespace Go.Proofs.YtfhnigfghfmolaaDoor
set_option maxRecDepth 100000
open Go.RowKit Go.ChangeShapes Go.WideShapes Go.ChangeAt

/-- A slice of bytes, as it comes in. -/
structure BySl (w : World) (A : Option Addr) (len cap : Nat) (xs : List Int) : Prop where
  hlen : xs.length = len
  hle : len ≤ cap
  hcap : cap ≤ maxLen
  hnone : A = none → len = 0
  isB : Cd.isB xs
  mem : 0 < len → ∃ b o, A = some ⟨b, o, none⟩ ∧ b < w.heap.size ∧ Byts w ⟨b, o, none⟩ xs

theorem BySl.below {w w' : World} {A : Option Addr} {len cap : Nat} {xs : List Int} (h : BySl w A len cap xs) (hb : Below w.heap.size w w') : BySl w' A len cap xs :=
  ⟨h.hlen, h.hle, h.hcap, h.hnone, h.isB, fun h0 => by
    obtain ⟨b, o, e, hlt, hx⟩ := h.mem h0
    exact ⟨b, o, e, Nat.lt_of_lt_of_le hlt hb.size, hx.below hb hlt⟩⟩
theorem BySl.sl {w : World} {A : Option Addr} {len cap : Nat} {xs : List Int} (h : BySl w A len cap xs) : Sl w A len (xs.map (Value.int .u8)) :=
  ⟨by simpa using h.hlen, fun h0 => by
    obtain ⟨b, o, e, hlt, hx⟩ := h.mem h0
    exact ⟨b, o, e, hlt, hx.news⟩⟩
theorem one_cell (xs : List Int) : ∀ u ∈ xs.map (Value.int .u8), u.oneCell' = true := fun u hu => by
  obtain ⟨x, _, rfl⟩ := List.mem_map.1 hu
  rfl
/-- A row of bytes of the call's own. -/
theorem byts_of_sl {w : World} {A : Option Addr} {n : Nat} {xs : List Int} (h : Sl w A n (xs.map (Value.int .u8))) (h0 : 0 < n) : ∃ b o, A = some ⟨b, o, none⟩ ∧ b < w.heap.size ∧ Byts w ⟨b, o, none⟩ xs := by
  obtain ⟨b, o, e, hlt, hc⟩ := h.2 h0
  exact ⟨b, o, e, hlt, fun i hi => hc i _ (getD_map hi)⟩

theorem byte_of_wf {n : Int} (h : (Lit.int .u8 n).wf = true) : 0 ≤ n ∧ n ≤ 255 := by
  simpa [Lit.wf, IntKind.min, IntKind.max, IntKind.signed, IntKind.bits] using h
theorem isB_of {xs : List Int} (h : ∀ n ∈ xs, 0 ≤ n ∧ n ≤ 255) : Cd.isB xs := fun i => by
  rw [List.getD_eq_getElem?_getD]
  rcases Nat.lt_or_ge i xs.length with hi | hi
  · rw [List.getElem?_eq_getElem hi]; exact h _ (List.getElem_mem hi)
  · rw [List.getElem?_eq_none hi]; exact ⟨by decide, by decide⟩

theorem row_of_ints {H : Type} {enc : TypeId × Value → H} {W : World} {b : Nat} {sp : Nat → Bool} {hd : Bool} {A : Option Addr} {len cap : Nat} {d : DataW H} {p : List MemPlace}
    (h : DataW.Trod enc Tryd.prog W b sp hd 22 (.slice A len cap) d p) (hsp : ∀ k, sp k = true) : ∃ xs, BySl W A len cap xs := by
  obtain ⟨fuel, hf⟩ := h
  rcases open_ints Tryd.underlying22 Tryd.underlying5 (by kernel_rfl) hf with ⟨hcs, _⟩ | ⟨x, l, c, zs, hcs, _, hl, hm, hz, _, hcell, hwz⟩
  · simp [Value.cells] at hcs
    obtain ⟨rfl, rfl, rfl⟩ := hcs
    exact ⟨[], rfl, Nat.le_refl _, Nat.zero_le _, fun _ => rfl, isB_of (fun n hn => absurd hn (by simp)), fun h0 => absurd h0 (by omega)⟩
  · simp [Value.cells] at hcs
    obtain ⟨rfl, rfl, rfl⟩ := hcs
    have hzl : zs.length = cap := by simpa [hsp] using hz
    refine ⟨zs.take len, by rw [List.length_take]; omega, hl, hm, fun e => by simp at e, isB_of (fun n hn => byte_of_wf (hwz n (List.mem_of_mem_take hn))), fun h0 => ?_⟩
    obtain ⟨b', o, rfl, hc⟩ := ints_at hcell (by omega)
    have hx : Byts W ⟨b', o, Option.none⟩ (zs.take len) := fun i hi => by
      rw [List.length_take] at hi
      rw [add_at, hc i (by omega), List.getD_eq_getElem?_getD, List.getD_eq_getElem?_getD, List.getElem?_take_of_lt (by omega)]
    exact ⟨b', o, rfl, hx.lt (by rw [List.length_take]; omega), hx⟩

set_option maxRecDepth 20000 in
theorem open_ins {H : Type} {enc : TypeId × Value → H} {W : World} {base : Nat} {b : Nat} {sp : Nat → Bool} {hd : Bool} {v : Value} {d : DataW H} {p : List MemPlace}
    (hv : Value.okWide Tryd.prog W .any base 59 v) (h : DataW.Trod enc Tryd.prog W b sp hd 59 v d p) :
    ∃ op a b c m : Int, v = .agg #[.int .i64 op, .int .i64 a, .int .i64 b, .int .i64 c, .int .u64 m] ∧ 0 ≤ m ∧ m < 18446744073709551616 := by
  obtain ⟨cs, rfl, hsz⟩ := okWide_struct Tryd.underlying59 hv
  obtain ⟨l⟩ := cs
  have c24 : Tryd.prog.cellsOf 59 = 5 := by kernel_rfl
  have c3 : Tryd.prog.cellsOf 3 = 1 := by kernel_rfl
  have c22 : Tryd.prog.cellsOf 29 = 1 := by kernel_rfl
  match l, hsz.trans c24 with
  | [v0, v1, v2, v3, v4], _ =>
    obtain ⟨fuel, hf⟩ := h
    obtain ⟨xs, n, _, hx, _, hlen, hg⟩ := DataW.trod_struct Tryd.underlying59 hf
    have g0 := hg 0 _ rfl
    have g1 := hg 1 _ rfl
    have g2 := hg 2 _ rfl
    have g3 := hg 3 _ rfl
    have g4 := hg 4 _ rfl
    match xs, hlen with
    | [y0, y1, y2, y3, y4], _ =>
      simp [Value.cells] at g0 g1 g2 g3 g4
      obtain ⟨n0, e0, _, _⟩ := DataW.trod_int Tryd.underlying3 g0
      obtain ⟨n1, e1, _, _⟩ := DataW.trod_int Tryd.underlying3 g1
      obtain ⟨n2, e2, _, _⟩ := DataW.trod_int Tryd.underlying3 g2
      obtain ⟨n3, e3, _, _⟩ := DataW.trod_int Tryd.underlying3 g3
      obtain ⟨n4, e4, _, w4⟩ := DataW.trod_int Tryd.underlying29 g4
      simp [c3, c22] at e0 e1 e2 e3 e4
      subst e0 e1 e2 e3 e4
      have w4' : 0 ≤ n4 ∧ n4 ≤ 18446744073709551615 := by simpa [Lit.wf, IntKind.min, IntKind.max, IntKind.signed, IntKind.bits] using w4
      exact ⟨n0, n1, n2, n3, n4, rfl, by omega, by omega⟩

/-! ### There and back -/
theorem isB_append {xs ys : List Int} (h : Cd.isB xs) (k : Cd.isB ys) : Cd.isB (xs ++ ys) := fun i => by
  rw [List.getD_eq_getElem?_getD]
  rcases Nat.lt_or_ge i xs.length with hi | hi
  · rw [List.getElem?_append_left hi, ← List.getD_eq_getElem?_getD]; exact h i
  · rw [List.getElem?_append_right hi, ← List.getD_eq_getElem?_getD]; exact k _
theorem isB_bts {op a b c m : Int} (h : Cd.bad op a b c m = -1) : Cd.isB (Cd.bts op a b c m) := isB_of fun n hn => by
  obtain ⟨b0, b1, b2, b3, b4, b5, b6, b7⟩ := Cd.bad_none h
  simp [Cd.bts] at hn
  rcases hn with rfl | rfl | rfl | rfl | rfl | rfl | rfl | rfl | rfl | rfl | rfl | rfl <;> omega
theorem gotL_bts {op a b c m : Int} (h : Cd.bad op a b c m = -1) (m0 : 0 ≤ m) (m1 : m < 18446744073709551616) (rest : List Int) :
    Cd.gotL (Cd.bts op a b c m ++ rest) = .tuple #[.agg #[.int .i64 op, .int .i64 a, .int .i64 b, .int .i64 c, .int .u64 m], .int .i64 0, .int .i64 0] := by
  have e : Cd.val (Cd.bts op a b c m ++ rest) = m := by
    simp [Cd.val, Cd.bts]
    omega
  unfold Cd.gotL
  rw [e]
  simp only [Cd.bts, List.cons_append, List.getD_cons_zero, List.getD_cons_succ]
  rw [Cd.got, if_pos h]
theorem bts_val (xs : List Int) (hn : 12 ≤ xs.length) (hB : Cd.isB xs) : Cd.bts (xs.getD 0 0) (xs.getD 1 0) (xs.getD 2 0) (xs.getD 3 0) (Cd.val xs) = xs.take 12 := by
  match xs, hn with
  | x0 :: x1 :: x2 :: x3 :: x4 :: x5 :: x6 :: x7 :: x8 :: x9 :: x10 :: x11 :: rest, _ =>
    have i4 := hB 4
    have i5 := hB 5
    have i6 := hB 6
    have i7 := hB 7
    have i8 := hB 8
    have i9 := hB 9
    have i10 := hB 10
    have i11 := hB 11
    clear hB
    simp only [Cd.bts, Cd.val, List.getD_cons_zero, List.getD_cons_succ, List.take_succ_cons, List.take_zero, List.cons.injEq, true_and, and_true] at *
    omega
theorem val_bd (xs : List Int) (hB : Cd.isB xs) : 0 ≤ Cd.val xs ∧ Cd.val xs < 18446744073709551616 := by
  have i4 := hB 4
  have i5 := hB 5
  have i6 := hB 6
  have i7 := hB 7
  have i8 := hB 8
  have i9 := hB 9
  have i10 := hB 10
  have i11 := hB 11
  unfold Cd.val
  omega
/-- What Get answers of a row whose instruction is so, and of another. -/
theorem gotL_ok {xs : List Int} (h : Cd.bad (xs.getD 0 0) (xs.getD 1 0) (xs.getD 2 0) (xs.getD 3 0) (Cd.val xs) = -1) :
    Cd.gotL xs = .tuple #[.agg #[.int .i64 (xs.getD 0 0), .int .i64 (xs.getD 1 0), .int .i64 (xs.getD 2 0), .int .i64 (xs.getD 3 0), .int .u64 (Cd.val xs)], .int .i64 0, .int .i64 0] := by
  rw [Cd.gotL, Cd.got, if_pos h]
theorem gotL_bad {xs : List Int} (h : Cd.bad (xs.getD 0 0) (xs.getD 1 0) (xs.getD 2 0) (xs.getD 3 0) (Cd.val xs) ≠ -1) :
    ∃ e k : Int, (e != 0) = true ∧ Cd.gotL xs = .tuple #[.agg #[.int .i64 0, .int .i64 0, .int .i64 0, .int .i64 0, .int .u64 0], .int .i64 e, .int .i64 k] := by
  refine ⟨_, _, ?_, by rw [Cd.gotL, Cd.got, if_neg h]⟩
  rcases Cd.bad_cases (xs.getD 0 0) (xs.getD 1 0) (xs.getD 2 0) (xs.getD 3 0) (Cd.val xs) with e | e | e | e | e | e <;> rw [e] at h ⊢ <;> simp [Cd.er] at h ⊢
end Go.Proofs.YtfhnigfghfmolaaDoor
