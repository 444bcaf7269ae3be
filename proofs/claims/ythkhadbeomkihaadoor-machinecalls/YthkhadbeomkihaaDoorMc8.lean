/-
  Contracts of save.
-/
import Derived.Test.YthkhadbeomkihaaDoorMc7
namespace Go.Proofs.YthkhadbeomkihaaDoor
set_option maxRecDepth 100000
open Go.RowKit

set_option maxRecDepth 20000 in
set_option maxHeartbeats 3200000 in
theorem save_out (g a b : Nat) (op c m x y : Int) (cs : Array Value) (w : World) (A : Option Addr) (n cap : Nat) (hb : RnB w g cs) (ha : a < 8) (hl : b < 8) (hy : cs[8 + a]? = some (.int .u64 y)) (hx : cs[8 + b]? = some (.int .u64 x)) (hm : cs[16]? = some (.slice A n cap)) (hn : n ≤ maxLen) (c0 : 0 ≤ c) (c1 : c ≤ 8) (h : ¬ (x + m) % 18446744073709551616 + c ≤ n) :
    Calls Tryd.prog 74 #[.pointer (some ⟨g, 0, none⟩), .agg #[.int .i64 op, .int .i64 a, .int .i64 b, .int .i64 c, .int .u64 m]] w fun e w' => e = .returned (.int .i64 2) ∧ Below w.heap.size w w' := by
  have ha' : (a : Int) < 8 := by omega
  have hgl := hb.lt
  have HB := Lib.hid hb
  have HH := Lib.hid h
  have hcy : ∀ o1 o2, ((w.alloc o1).alloc o2).cell? ⟨g, 8 + a, none⟩ = some (.int .u64 y) := fun o1 o2 => (((hb.box o1).box o2).c (8 + a)).trans hy
  have hcy3 : ∀ o1 o2 o3, (((w.alloc o1).alloc o2).alloc o3).cell? ⟨g, 8 + a, none⟩ = some (.int .u64 y) := fun o1 o2 o3 => ((((hb.box o1).box o2).box o3).c (8 + a)).trans hy
  clear hb h
  go_enter Tryd.func74, Tryd.ntmps74
  go_wp2_with fail
  go_region
  clear hcy hcy3
  go_wp2_with fail
  refine (through_out g b op a c m x _ cs _ A n cap (((HB.out.box _).box _).box _).drew hl hx hm hn c0 c1 (by have := HH.out; omega)).mono ?_
  rintro e v ⟨rfl, hbv⟩
  have hB : Below w.heap.size w v := ((((Below.refl _ _).alloc (Nat.le_refl _) _).alloc (by simp) _).alloc (by simp; omega) _).drew.trans (hbv.mono (by simp; omega))
  have HB2 := Lib.hid hB
  clear hB hbv
  go_wp2
  go_ret
  exact ⟨rfl, HB2.out⟩

set_option maxRecDepth 20000 in
set_option maxHeartbeats 3200000 in
theorem save_in (g a b mb k cn : Nat) (op c m x y : Int) (cur : Array Value) (cs : Array Value) (w : World) (n cap : Nat) (hb : RnB w g cs) (hz : cs.size = 45) (ha : a < 8) (hl : b < 8) (hy : cs[8 + a]? = some (.int .u64 y)) (hx : cs[8 + b]? = some (.int .u64 x)) (hm : cs[16]? = some (.slice (some ⟨mb, 0, none⟩) n cap)) (hn : n ≤ maxLen) (hc : c = cn) (c1 : cn ≤ 8)
    (hk : (x + m) % 18446744073709551616 = k) (h : k + cn ≤ n) (hM : w.heap[mb]? = some (.cells cur 5 (0, 0))) (hzz : ∀ q, q < n → ∃ z, cur[q]? = some (.int .u8 z)) (y0 : 0 ≤ y) (y1 : y < 18446744073709551616) (hmg : mb ≠ g) :
    Calls Tryd.prog 74 #[.pointer (some ⟨g, 0, none⟩), .agg #[.int .i64 op, .int .i64 a, .int .i64 b, .int .i64 c, .int .u64 m]] w fun e w' =>
      e = .returned (.int .i64 0) ∧ w'.heap[mb]? = some (.cells (svA cn cur k y) 5 (0, 0)) ∧ Fr mb none none w w' := by
  subst hc
  have ha' : (a : Int) < 8 := by omega
  have hgl := hb.lt
  have hml : mb < w.heap.size := by
    rcases Nat.lt_or_ge mb w.heap.size with h1 | h1
    · exact h1
    · rw [Array.getElem?_eq_none h1] at hM; cases hM
  have HB := Lib.hid hb
  have HZZ := Lib.hid hzz
  have HMM := Lib.hid hM
  have hcy : ∀ o1 o2, ((w.alloc o1).alloc o2).cell? ⟨g, 8 + a, none⟩ = some (.int .u64 y) := fun o1 o2 => (((hb.box o1).box o2).c (8 + a)).trans hy
  have hcy3 : ∀ o1 o2 o3, (((w.alloc o1).alloc o2).alloc o3).cell? ⟨g, 8 + a, none⟩ = some (.int .u64 y) := fun o1 o2 o3 => ((((hb.box o1).box o2).box o3).c (8 + a)).trans hy
  have hB3 : ∀ o1 o2 o3, Below w.heap.size w (((w.alloc o1).alloc o2).alloc o3) := fun o1 o2 o3 => (((Below.refl _ _).alloc (Nat.le_refl _) _).alloc (by simp) _).alloc (by simp; omega) _
  have H3 := Lib.hid hB3
  clear hb hB3 hzz hM
  go_enter Tryd.func74, Tryd.ntmps74
  go_wp2_with fail
  go_region
  clear hcy hcy3
  go_wp2_with fail
  refine (through_save g b (w.heap.size + 1 + 1) w.heap.size mb k cn op a cn m x y cur cs _ n cap (((HB.out.box _).box _).box _).drew hl hx hm hn rfl c1 hk h (((H3.out _ _ _).drew.block mb hml).trans HMM.out) HZZ.out y0 y1 ?_ ?_ hmg (by omega) (by omega)).mono ?_
  · exact row_cell (three _ _ _ _).2.2 0
  · exact row_cell (three _ _ _ _).1 0
  rintro e v ⟨rfl, hMv, hfv⟩
  have hF : Fr mb none none w v := ⟨hfv.os, hfv.tape, hfv.output, Nat.le_trans (by simp; omega) hfv.size, fun i hi h1 h2 h3 => (hfv.block i (by simp; omega) h1 h2 h3).trans ((H3.out _ _ _).drew.block i hi)⟩
  have HMV := Lib.hid hMv
  have HF := Lib.hid hF
  clear hMv hF hfv
  go_wp2
  go_ret
  exact ⟨rfl, HMV.out, HF.out⟩
end Go.Proofs.YthkhadbeomkihaaDoor
