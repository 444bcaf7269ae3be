/-
  The contract of fault; the reference's Name and Op.
-/
import Derived.Test.YthkhadbeomkihaaDoorCdW2
namespace Go.Proofs.YthkhadbeomkihaaDoor
set_option maxRecDepth 100000
open Go.RowKit

theorem ret_two {a b c d : Int} (h : a = c) (k : b = d) : Ending.returned (.tuple #[.int .i64 a, .int .i64 b]) = .returned (.tuple #[.int .i64 c, .int .i64 d]) := by rw [h, k]

theorem cells_below {n : Nat} {w w' : World} (hb : Below n w w') {b o : Nat} {v : Value} (h : w.cell? ⟨b, o, none⟩ = some v) (hn : b < n) : w'.cell? ⟨b, o, none⟩ = some v :=
  (hb.cell (p := ⟨b, o, none⟩) hn).trans h

set_option maxHeartbeats 400000 in
theorem fault_no (op a b c m : Int) (w : World) (he : Cd.exi op = false) :
    Calls Tryd.prog 65 #[.agg #[.int .i64 op, .int .i64 a, .int .i64 b, .int .i64 c, .int .u64 m]] w fun e w' =>
      e = .returned (.tuple #[.int .i64 4, .int .i64 0]) ∧ Below w.heap.size w w' := by
  go_enter Tryd.func65, Tryd.ntmps65
  go_wp2_with (go_at_call 87; refine (exists_any _ _).mono ?_; rintro e w' ⟨rfl, rfl⟩)
  go_ret2
  exact ⟨rfl, (Below.refl _ _).alloc (Nat.le_refl _) _⟩

/-- What fault tells of parts and parts that are so. -/
def Cd.cmp (a b c m a' b' c' m' : Int) : Int := if a' = a then if b' = b then if c' = c then if m' = m then -1 else 4 else 3 else 2 else 1

set_option maxHeartbeats 1000000 in
theorem fault_yes (n : Nat) (a b c m a' b' c' m' : Int) (w : World) (hn : n < 26) (ho : Ops w) (he : Cd.exi n = true)
    (ha : Cd.mp (Cd.ka n) a = a') (hb : Cd.mp (Cd.kb n) b = b') (hc : Cd.mp (Cd.kc n) c = c') (hm : Cd.mi (Cd.ki n) m = m') :
    Calls Tryd.prog 65 #[.agg #[.int .i64 n, .int .i64 a, .int .i64 b, .int .i64 c, .int .u64 m]] w fun e w' =>
      e = .returned (.tuple #[.int .i64 (Cd.er (Cd.cmp a b c m a' b' c' m')), .int .i64 (Cd.pl (Cd.cmp a b c m a' b' c' m'))]) ∧ Below w.heap.size w w' := by
  have HM : ∀ W, Ops W → Calls Tryd.prog 88 #[.agg #[.int .i64 n, .int .i64 a, .int .i64 b, .int .i64 c, .int .u64 m]] W fun e w' =>
      e = .returned (.agg #[.int .i64 n, .int .i64 a', .int .i64 b', .int .i64 c', .int .u64 m']) ∧ Below W.heap.size W w' := fun W hW => by
    have := mended_any n a b c m W hn hW
    rw [ha, hb, hc, hm] at this
    exact this
  have HH := Lib.hid HM
  clear HM ha hb hc hm
  have hp := ho.pos
  have hob := ho.below ((Below.refl w.heap.size w).alloc (Nat.le_refl _) (.cells #[.int .i64 n, .int .i64 a, .int .i64 b, .int .i64 c, .int .u64 m] 59)) hp
  have HO := Lib.hid hob
  clear ho hob
  go_enter Tryd.func65, Tryd.ntmps65
  go_wp2_with (go_at_call 87; refine (exists_any _ _).mono ?_; rintro e w' ⟨rfl, rfl⟩)
  refine (HH.out _ HO.out).mono ?_
  rintro e v ⟨rfl, hbv⟩
  have hz : w.heap.size < v.heap.size := by have := hbv.size; simp at this; omega
  have c0 : v.cell? ⟨w.heap.size, 0, none⟩ = some (.int .i64 n) := cells_below hbv (by simp) (by simp)
  have c1 : v.cell? ⟨w.heap.size, 1, none⟩ = some (.int .i64 a) := cells_below hbv (by simp) (by simp)
  have c2 : v.cell? ⟨w.heap.size, 2, none⟩ = some (.int .i64 b) := cells_below hbv (by simp) (by simp)
  have c3 : v.cell? ⟨w.heap.size, 3, none⟩ = some (.int .i64 c) := cells_below hbv (by simp) (by simp)
  have c4 : v.cell? ⟨w.heap.size, 4, none⟩ = some (.int .u64 m) := cells_below hbv (by simp) (by simp)
  have HB := Lib.hid hbv
  clear hbv
  go_wp2
  all_goals
    go_ret2
    refine ⟨ret_two ?_ ?_, ((((Below.refl _ _).alloc (Nat.le_refl _) _).trans (HB.out.mono (by simp))).alloc (by omega) _)⟩
  all_goals simp_all [Cd.cmp, Cd.er, Cd.pl]

theorem fault_any (op a b c m : Int) (w : World) (ho : Ops w) :
    Calls Tryd.prog 65 #[.agg #[.int .i64 op, .int .i64 a, .int .i64 b, .int .i64 c, .int .u64 m]] w fun e w' =>
      e = .returned (.tuple #[.int .i64 (Cd.er (Cd.bad op a b c m)), .int .i64 (Cd.pl (Cd.bad op a b c m))]) ∧ Below w.heap.size w w' := by
  by_cases he : Cd.exi op = true
  · obtain ⟨n, rfl, hn⟩ := Cd.exi_nat he
    have e : Cd.bad n a b c m = Cd.cmp a b c m (Cd.mp (Cd.ka n) a) (Cd.mp (Cd.kb n) b) (Cd.mp (Cd.kc n) c) (Cd.mi (Cd.ki n) m) := by rw [Cd.bad, if_pos he, Int.toNat_natCast]; rfl
    rw [e]
    exact fault_yes n a b c m _ _ _ _ w hn ho he rfl rfl rfl rfl
  · have e : Cd.bad op a b c m = 0 := by rw [Cd.bad, if_neg he]
    rw [e]
    exact fault_no op a b c m w (by simpa using he)

end Go.Proofs.YthkhadbeomkihaaDoor
