/-
  Layer 2 as plain functions: which operations there are, what they have, their names; the first part of an instruction that isn't so; its bytes.
-/
namespace Go.Proofs.YthkhadbeomkihaaDoor
set_option maxRecDepth 100000
namespace Cd

def exi (op : Int) : Bool := decide (0 ≤ op) && decide (op < 26)
def goes (op : Int) : Bool := exi op && (op != 0) && (op != 21) && (op != 24) && (op != 25)

/-- What A, B, C, Imm are, operation by operation: 0 nothing, 1 a register, 2 a width, 3 a number. -/
def kA : List Int := [0, 1, 1, 1, 1, 1, 1, 1, 1, 1, 1, 1, 1, 1, 1, 1, 1, 1, 1, 1, 1, 0, 1, 0, 0, 0]
def kB : List Int := [0, 0, 1, 1, 1, 1, 1, 1, 1, 1, 1, 1, 1, 1, 1, 1, 1, 1, 1, 1, 0, 0, 0, 0, 0, 0]
def kC : List Int := [0, 0, 0, 1, 1, 1, 1, 1, 1, 1, 1, 1, 1, 1, 1, 1, 1, 2, 2, 0, 0, 0, 0, 0, 0, 0]
def kI : List Int := [0, 3, 0, 0, 0, 0, 0, 0, 0, 0, 0, 0, 0, 0, 0, 0, 0, 3, 3, 3, 0, 3, 3, 3, 0, 0]
def ka (n : Nat) : Int := kA.getD n 0
def kb (n : Nat) : Int := kB.getD n 0
def kc (n : Nat) : Int := kC.getD n 0
def ki (n : Nat) : Int := kI.getD n 0

def names : List (List UInt8) := [[104, 97, 108, 116], [115, 101, 116], [99, 111, 112, 121], [97, 100, 100], [115, 117, 98], [109, 117, 108], [100, 105, 118], [114, 101, 109], [97, 110, 100], [111, 114], [120, 111, 114], [115, 104, 108], [115, 104, 114], [115, 97, 114], [115, 97, 109, 101], [108, 101, 115, 115], [98, 101, 108, 111, 119], [108, 111, 97, 100], [115, 97, 118, 101], [105, 110, 112, 117, 116], [108, 101, 110, 103, 116, 104], [106, 117, 109, 112], [98, 114, 97, 110, 99, 104], [99, 97, 108, 108], [98, 97, 99, 107], [102, 97, 105, 108]]
def nm (n : Nat) : ByteArray := ⟨(names.getD n []).toArray⟩

/-- A part, as its kind has it: another one in its place, if it isn't so. -/
def mp (k x : Int) : Int := if k = 1 then (if x < 0 then 0 else if 7 < x then 7 else x) else if k = 2 then (if x = 1 ∨ x = 2 ∨ x = 4 ∨ x = 8 then x else 1) else 0
def mi (k m : Int) : Int := if k = 0 then 0 else m

/-- The first part that isn't so: 0 the operation, 1 to 4; -1: none. -/
def bad (op a b c m : Int) : Int :=
  if exi op = true then
    if mp (ka op.toNat) a = a then
      if mp (kb op.toNat) b = b then
        if mp (kc op.toNat) c = c then
          if mi (ki op.toNat) m = m then -1 else 4
        else 3
      else 2
    else 1
  else 0
def er (k : Int) : Int := if k = 0 then 4 else if k = -1 then 0 else 5
def pl (k : Int) : Int := if k = -1 then 0 else k

/-- The reference's letters of what an operation has. -/
def hs (op : Int) : ByteArray :=
  if op = 0 ∨ op = 24 ∨ op = 25 then ⟨#[]⟩ else if op = 1 ∨ op = 22 then ⟨#[97, 105]⟩ else if op = 2 then ⟨#[97, 98]⟩ else if op = 17 ∨ op = 18 then ⟨#[97, 98, 119, 105]⟩
  else if op = 19 then ⟨#[97, 98, 105]⟩ else if op = 20 then ⟨#[97]⟩ else if op = 21 ∨ op = 23 then ⟨#[105]⟩ else ⟨#[97, 98, 99]⟩
def has (s : ByteArray) (c : Int) : Bool := s.data.toList.any fun x => (x.toNat : Int) == c
def reg (h : Bool) (n : Int) : Bool := if h = true then decide (0 ≤ n) && decide (n ≤ 7) else n == 0
def wid (c : Int) : Bool := c == 1 || c == 2 || c == 4 || c == 8
def rbad (op a b c m : Int) : Int :=
  if exi op = true then
    if reg (has (hs op) 97) a = true then
      if reg (has (hs op) 98) b = true then
        if (if has (hs op) 119 = true then wid c else reg (has (hs op) 99) c) = true then
          if (has (hs op) 105 = true ∨ m = 0) then -1 else 4
        else 3
      else 2
    else 1
  else 0

theorem mp_reg (k x : Int) (h : Bool) (hk : k = if h = true then 1 else 0) : mp k x = x ↔ reg h x = true := by
  subst hk
  cases h <;> simp [mp, reg] <;> omega
theorem mp_wid (x : Int) : mp 2 x = x ↔ wid x = true := by
  simp [mp, wid]
  omega
theorem mi_has (k m : Int) (h : Bool) (hk : k = if h = true then 3 else 0) : mi k m = m ↔ (h = true ∨ m = 0) := by
  subst hk
  cases h <;> simp [mi] <;> omega

theorem tab (n : Nat) (h : n < 26) : ka n = (if has (hs n) 97 = true then 1 else 0) ∧ kb n = (if has (hs n) 98 = true then 1 else 0) ∧
    kc n = (if has (hs n) 119 = true then 2 else if has (hs n) 99 = true then 1 else 0) ∧ ki n = (if has (hs n) 105 = true then 3 else 0) := by
  have h' : ∀ n : Fin 26, ka n = (if has (hs (n : Nat)) 97 = true then 1 else 0) ∧ kb n = (if has (hs (n : Nat)) 98 = true then 1 else 0) ∧
    kc n = (if has (hs (n : Nat)) 119 = true then 2 else if has (hs (n : Nat)) 99 = true then 1 else 0) ∧ ki n = (if has (hs (n : Nat)) 105 = true then 3 else 0) := by decide +kernel
  exact h' ⟨n, h⟩

theorem exi_nat {op : Int} (h : exi op = true) : ∃ n : Nat, op = n ∧ n < 26 := by
  simp [exi] at h
  exact ⟨op.toNat, by omega, by omega⟩

theorem rbad_bad (op a b c m : Int) : rbad op a b c m = bad op a b c m := by
  unfold rbad bad
  by_cases he : exi op = true
  · obtain ⟨n, rfl, hn⟩ := exi_nat he
    obtain ⟨h1, h2, h3, h4⟩ := tab n hn
    rw [if_pos he, if_pos he, Int.toNat_natCast]
    have e1 := mp_reg (ka n) a _ h1
    have e2 := mp_reg (kb n) b _ h2
    have e4 := mi_has (ki n) m _ h4
    have e3 : mp (kc n) c = c ↔ (if has (hs n) 119 = true then wid c else reg (has (hs n) 99) c) = true := by
      by_cases hw : has (hs n) 119 = true
      · rw [if_pos hw] at h3 ⊢
        rw [h3]; exact mp_wid c
      · rw [if_neg hw] at h3 ⊢
        exact mp_reg (kc n) c _ h3
    simp only [e1, e2, e3, e4]
  · rw [if_neg he, if_neg he]

theorem bad_cases (op a b c m : Int) : bad op a b c m = -1 ∨ bad op a b c m = 0 ∨ bad op a b c m = 1 ∨ bad op a b c m = 2 ∨ bad op a b c m = 3 ∨ bad op a b c m = 4 := by
  unfold bad
  repeat' split
  all_goals simp

/-- What an instruction that is so has in its parts: bytes. -/
theorem bad_none {op a b c m : Int} (h : bad op a b c m = -1) : 0 ≤ op ∧ op < 26 ∧ 0 ≤ a ∧ a ≤ 7 ∧ 0 ≤ b ∧ b ≤ 7 ∧ 0 ≤ c ∧ c ≤ 8 := by
  unfold bad at h
  split at h
  · rename_i he
    obtain ⟨n, rfl, hn⟩ := exi_nat he
    rw [Int.toNat_natCast] at h
    have h' : ∀ n : Fin 26, (ka n = 0 ∨ ka n = 1) ∧ (kb n = 0 ∨ kb n = 1) ∧ (kc n = 0 ∨ kc n = 1 ∨ kc n = 2) := by decide +kernel
    obtain ⟨t1, t2, t3⟩ := h' ⟨n, hn⟩
    split at h
    · rename_i e1
      split at h
      · rename_i e2
        split at h
        · rename_i e3
          refine ⟨by omega, by omega, ?_⟩
          have r1 : 0 ≤ a ∧ a ≤ 7 := by rcases t1 with t | t <;> rw [show ka n = _ from t] at e1 <;> simp [mp] at e1 <;> omega
          have r2 : 0 ≤ b ∧ b ≤ 7 := by rcases t2 with t | t <;> rw [show kb n = _ from t] at e2 <;> simp [mp] at e2 <;> omega
          have r3 : 0 ≤ c ∧ c ≤ 8 := by
            rcases t3 with t | t | t <;> rw [show kc n = _ from t] at e3 <;> simp [mp] at e3
            · omega
            · omega
            · omega
          omega
        · omega
      · omega
    · omega
  · omega
end Cd
end Go.Proofs.YthkhadbeomkihaaDoor
